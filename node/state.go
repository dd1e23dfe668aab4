package node

import (
	"slices"

	"strongbox/amount"
	"strongbox/api"
	"strongbox/block"
	"strongbox/chain"
	"strongbox/fees"
	"strongbox/ledger"
	"strongbox/pool"
	"strongbox/ring"
	"strongbox/spend"
	"strongbox/tx"
)

const mostWaiting = 20000 // virtual bytes in the pool

// state is what all operations so far have led to.
type state struct {
	*ledger.Ledger
	ledger.View
	intents *ring.Ring // what the Ring would be if nothing had been paid to it
	book    *fees.Book
}

// begin returns the state without operations.
func begin(gap int) *state {
	return &state{
		Ledger:  ledger.New(),
		View:    ledger.View{Chain: chain.New(), Pool: pool.New(mostWaiting), Ring: ring.New(gap)},
		intents: ring.New(gap),
		book:    fees.New(),
	}
}

// copied returns a state to which the same has happened.
func (s *state) copied() *state {
	return &state{
		Ledger:  s.Ledger.Clone(),
		View:    ledger.View{Chain: s.Chain.Clone(), Pool: s.Pool.Clone(), Ring: s.Ring.Clone()},
		intents: s.intents.Clone(),
		book:    s.book.Clone(),
	}
}

// perform lets an operation take effect. After an error the state is not used any more.
func (s *state) perform(o Op) Answer {
	if !known(o.Kind) {
		return only(api.ErrArg)
	}
	return effects()[o.Kind](s, o)
}

// effects returns what each kind of operation does.
func effects() [Label + 1]func(*state, Op) Answer {
	return [...]func(*state, Op) Answer{
		Block:   (*state).block,
		Tx:      (*state).tx,
		Desc:    (*state).desc,
		Take:    (*state).take,
		Send:    (*state).send,
		Bump:    (*state).bump,
		Abandon: (*state).abandon,
		Rescan:  (*state).rescan,
		Lock:    (*state).lock,
		Label:   (*state).label,
	}
}

// only returns an answer with nothing but an error, or not even that.
func only(err api.Errno) Answer { return Answer{Err: err} }

func (s *state) block(o Op) Answer {
	b, err := block.Decode(o.Data)
	if err != api.OK {
		return only(err)
	}
	x, err := s.Chain.Accept(b)
	if err != api.OK {
		return only(err)
	}
	s.follow(x)
	return Answer{Id: s.Chain.Tip(), N: len(x.On)}
}

// follow lets everything else know how the chain changed.
func (s *state) follow(x chain.Change) {
	if len(x.Off) > 0 {
		// What the lost blocks paid to doesn't count any more.
		s.Ring = s.intents.Clone()
	}
	var lost []api.Tx
	for _, b := range slices.Backward(x.Off) {
		lost = append(lost, b.Txs[1:]...)
	}
	s.Pool.Refresh(s.Chain, lost...)
	height := s.Chain.Height() - len(x.On)
	for _, b := range x.On {
		height++
		s.book.Block(height, ids(b.Txs[1:])...)
	}
	s.Scan(s.View, 0)
}

func ids(list []api.Tx) []api.Hash {
	var all []api.Hash
	for _, t := range list {
		all = append(all, tx.Id(t))
	}
	return all
}

func (s *state) tx(o Op) Answer {
	t, err := tx.Decode(o.Data)
	if err != api.OK {
		return only(err)
	}
	id, err := s.wait(t)
	if err != api.OK {
		return only(err)
	}
	if s.Mine(s.View, t) {
		s.Add(t)
	}
	return Answer{Id: id}
}

// wait lets a transaction wait for a block, and returns its Id.
func (s *state) wait(t api.Tx) (api.Hash, api.Errno) {
	if err := s.Pool.Add(s.Chain, t); err != api.OK {
		return api.Hash{}, err
	}
	e, _ := s.Pool.Get(tx.Id(t))
	rate, _ := amount.Rate(e.Fee, e.Size)
	s.book.Enter(e.Id, rate, s.Chain.Height())
	return e.Id, api.OK
}

func (s *state) desc(o Op) Answer {
	n, err := s.Ring.Add(o.Text)
	if err != api.OK {
		return only(err)
	}
	s.intents.Add(o.Text)
	s.Scan(s.View, 0)
	return Answer{N: n}
}

func (s *state) take(o Op) Answer {
	place, script, err := s.handOut(o.N)
	if err != api.OK {
		return only(err)
	}
	s.Scan(s.View, 0)
	return Answer{Place: place, Script: script}
}

// handOut hands out the next index of a descriptor.
func (s *state) handOut(n int) (ring.Place, []byte, api.Errno) {
	place, script, err := s.Ring.Take(n)
	if err != api.OK {
		return ring.Place{}, nil, err
	}
	for range int(place.Index) + 1 - s.intents.Next(n) {
		s.intents.Take(n)
	}
	return place, script, api.OK
}

func (s *state) send(o Op) Answer {
	t, err := spend.Build(s.Ledger, s.View, o.Order)
	if err != api.OK {
		return only(err)
	}
	id, err := s.wait(t)
	if err != api.OK {
		return only(err)
	}
	changed := len(t.Out) > len(o.Order.Pay)
	if changed {
		s.handOut(o.Order.Change)
	}
	s.Add(t)
	if changed {
		s.Scan(s.View, 0)
	}
	return Answer{Tx: t, Id: id}
}

func (s *state) bump(o Op) Answer {
	t, err := spend.Bump(s.Ledger, s.View, o.Id, o.Rate)
	if err != api.OK {
		return only(err)
	}
	id, err := s.wait(t)
	if err != api.OK {
		return only(err)
	}
	s.Add(t)
	return Answer{Tx: t, Id: id}
}

func (s *state) abandon(o Op) Answer { return only(s.Abandon(s.View, o.Id)) }

func (s *state) rescan(o Op) Answer { return Answer{N: s.Scan(s.View, o.N)} }

func (s *state) label(o Op) Answer { return only(s.Label(o.Data, o.Text)) }

func (s *state) lock(o Op) Answer {
	s.Lock(o.Place, o.On)
	return Answer{}
}
