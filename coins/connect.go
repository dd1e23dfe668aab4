package coins

import (
	"slices"

	"strongbox/amount"
	"strongbox/api"
	"strongbox/block"
	"strongbox/tx"
)

// Undo is the coins that a block spent, in the order in which it did.
type Undo []Entry

// Connect lets the transactions of a block take effect, or changes nothing.
func (s *Set) Connect(b api.Block, height int, time uint32) (Undo, api.Errno) {
	if !oneCoinbase(b.Txs) {
		return nil, api.ErrForm
	}
	a := attempt{Set: s}
	u, err := a.connect(b.Txs, height, time)
	if err != api.OK {
		a.takeBack()
		return nil, err
	}
	return u, api.OK
}

// Disconnect restores what was there before Connect, or changes nothing.
func (s *Set) Disconnect(b api.Block, u Undo) api.Errno {
	a := attempt{Set: s}
	if !a.disconnect(b.Txs, u) {
		a.takeBack()
		return api.ErrState
	}
	return api.OK
}

// oneCoinbase: is the first transaction a coinbase, and no other one?
func oneCoinbase(list []api.Tx) bool {
	for i, t := range list {
		if tx.Coinbase(t) != (i == 0) {
			return false
		}
	}
	return len(list) > 0
}

// attempt is changes to a set that can be taken back.
type attempt struct {
	*Set
	past []moment
}

// moment is what was at a place before it changed: a coin, or none.
type moment struct {
	Entry
	there bool
}

// takeBack undoes all changes, the last one first.
func (a *attempt) takeBack() {
	for _, m := range slices.Backward(a.past) {
		if m.there {
			a.coins[m.Place] = m.Coin
		} else {
			delete(a.coins, m.Place)
		}
	}
}

// add adds a coin, unless there is one at its place.
func (a *attempt) add(e Entry) bool {
	if _, ok := a.coins[e.Place]; ok {
		return false
	}
	a.past = append(a.past, moment{Entry: Entry{Place: e.Place}})
	a.coins[e.Place] = e.Coin.clone()
	return true
}

// take removes the coin at a place.
func (a *attempt) take(p api.OutPoint) (Entry, bool) {
	c, ok := a.coins[p]
	if !ok {
		return Entry{}, false
	}
	e := Entry{Place: p, Coin: c}
	a.past = append(a.past, moment{Entry: e, there: true})
	delete(a.coins, p)
	e.Coin = c.clone()
	return e, true
}

func (a *attempt) connect(list []api.Tx, height int, time uint32) (Undo, api.Errno) {
	var u Undo
	money := []int64{block.Subsidy(height)}
	for i, t := range list {
		if i > 0 {
			fee, err := a.Fits(t, height, time)
			if err != api.OK {
				return nil, err
			}
			money = append(money, fee)
		}
		if !a.makeOutputs(t, Coin{Height: height, Fresh: i == 0}) {
			return nil, api.ErrThere
		}
		if i > 0 {
			u = append(u, a.spend(t)...)
		}
	}
	return u, covers(money, list[0].Out)
}

// makeOutputs adds the outputs of a transaction as coins like c.
func (a *attempt) makeOutputs(t api.Tx, c Coin) bool {
	id := tx.Id(t)
	for i, out := range t.Out {
		c.Out = out
		if !a.add(Entry{Place: api.OutPoint{Hash: id, Index: uint32(i)}, Coin: c}) {
			return false
		}
	}
	return true
}

// spend removes the coins that a transaction spends, which exist.
func (a *attempt) spend(t api.Tx) []Entry {
	var spent []Entry
	for _, in := range t.In {
		e, _ := a.take(in.Prev)
		spent = append(spent, e)
	}
	return spent
}

// covers: are outputs worth no more than this money?
func covers(money []int64, outs []api.TxOut) api.Errno {
	has, err := amount.Add(money...)
	if err != api.OK {
		return err
	}
	makes, err := sum(outs)
	if err != api.OK {
		return err
	}
	_, err = amount.Sub(has, makes)
	return err
}

// disconnect undoes transactions, the last one first, and takes what they spent from the end of u.
func (a *attempt) disconnect(list []api.Tx, u Undo) bool {
	for i, t := range slices.Backward(list) {
		if !a.removeOutputs(t) {
			return false
		}
		if i == 0 {
			break
		}
		rest := len(u) - len(t.In)
		if rest < 0 || !a.restore(t, u[rest:]) {
			return false
		}
		u = u[:rest]
	}
	return len(u) == 0
}

// removeOutputs removes the outputs of a transaction, each of which must be as it was made.
func (a *attempt) removeOutputs(t api.Tx) bool {
	id := tx.Id(t)
	for i, out := range t.Out {
		e, ok := a.take(api.OutPoint{Hash: id, Index: uint32(i)})
		if !ok || !sameOutput(e.Coin.Out, out) {
			return false
		}
	}
	return true
}

// restore adds the coins that a transaction spent, one for each input.
func (a *attempt) restore(t api.Tx, spent []Entry) bool {
	for i, in := range t.In {
		if spent[i].Place != in.Prev || !a.add(spent[i]) {
			return false
		}
	}
	return true
}
