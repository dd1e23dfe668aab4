package pool

import (
	"cmp"
	"math/bits"
	"slices"

	"strongbox/amount"
	"strongbox/api"
	"strongbox/chain"
	"strongbox/coins"
	"strongbox/tx"
)

const (
	leastRate    = 1000 // what a transaction pays for 1000 bytes: once, and once more if it replaces others
	mostReplaced = 50
)

// next is the block that could follow the best one of a chain.
type next struct {
	*chain.Chain
	height int
	time   uint32
}

func nextOf(c *chain.Chain) next {
	return next{Chain: c, height: c.Height() + 1, time: c.Tree().Median(c.Tip())}
}

// Add accepts a transaction, which may replace others, or changes nothing.
func (p *Pool) Add(c *chain.Chain, t api.Tx) api.Errno { return p.add(nextOf(c), t) }

func (p *Pool) add(n next, t api.Tx) api.Errno {
	e := Entry{Id: tx.Id(t), Tx: tx.Clone(t), Size: tx.Virtual(t)}
	if err := p.admits(e); err != api.OK {
		return err
	}
	rivals := p.rivals(e)
	inWay, rest := split(p.list, behind(p.list, idsOf(rivals)...))
	var err api.Errno
	if e.Fee, err = n.fits(t, rest); err != api.OK {
		return err
	}
	if err := e.pays(rivals, inWay); err != api.OK {
		return err
	}
	list := evict(append(rest, e), p.most)
	if !slices.Contains(idsOf(list), e.Id) {
		return api.ErrFull
	}
	p.list = list
	return api.OK
}

// admits returns why a transaction can't wait here, on whatever chain.
func (p *Pool) admits(e Entry) api.Errno {
	if err := tx.Check(e.Tx); err != api.OK {
		return err
	}
	if tx.Coinbase(e.Tx) {
		return api.ErrForm
	}
	if slices.Contains(idsOf(p.list), e.Id) {
		return api.ErrThere
	}
	return api.OK
}

// rivals returns the entries that spend a place that a transaction spends as well.
func (p *Pool) rivals(e Entry) []Entry {
	places := map[api.OutPoint]struct{}{}
	for _, in := range e.Tx.In {
		places[in.Prev] = struct{}{}
	}
	shared := func(in api.TxIn) bool {
		_, ok := places[in.Prev]
		return ok
	}
	var list []Entry
	for _, w := range p.list {
		if slices.ContainsFunc(w.Tx.In, shared) {
			list = append(list, w)
		}
	}
	return list
}

// fits returns the fee of a transaction that spends coins of the chain, and outputs of those that wait.
func (n next) fits(t api.Tx, waiting []Entry) (int64, api.Errno) {
	s := coins.New()
	for _, in := range t.In {
		if c, ok := n.coin(in.Prev, waiting); ok {
			s.Put(coins.Entry{Place: in.Prev, Coin: c})
		}
	}
	return s.Fits(t, n.height, n.time)
}

func (n next) coin(p api.OutPoint, waiting []Entry) (coins.Coin, bool) {
	if c, ok := n.Coin(p); ok {
		return c, true
	}
	for _, e := range waiting {
		if e.Id == p.Hash && int64(p.Index) < int64(len(e.Tx.Out)) {
			return coins.Coin{Out: e.Tx.Out[p.Index], Height: n.height}, true
		}
	}
	return coins.Coin{}, false
}

// pays returns why a transaction pays too little, for itself or to replace what is in its way.
func (e Entry) pays(rivals, inWay []Entry) api.Errno {
	least, err := amount.Fee(leastRate, e.Size)
	if err != api.OK || e.Fee < least {
		return api.ErrFee
	}
	if len(inWay) > mostReplaced || e.Fee < fees(inWay)+least {
		return api.ErrClash
	}
	if slices.ContainsFunc(rivals, func(r Entry) bool { return compareRates(r, e) >= 0 }) {
		return api.ErrClash
	}
	return api.OK
}

func fees(list []Entry) int64 {
	sum := int64(0)
	for _, e := range list {
		sum += e.Fee
	}
	return sum
}

// compareRates compares what two transactions pay for a byte. The product of a valid amount and a size may exceed 64 bits.
func compareRates(a, b Entry) int {
	aHigh, aLow := bits.Mul64(uint64(a.Fee), uint64(b.Size))
	bHigh, bLow := bits.Mul64(uint64(b.Fee), uint64(a.Size))
	return cmp.Or(cmp.Compare(aHigh, bHigh), cmp.Compare(aLow, bLow))
}

// evict removes the entry with the lowest rate and all Behind it, as long as there are more virtual bytes than these.
func evict(list []Entry, most int) []Entry {
	for size(list) > most {
		_, list = split(list, behind(list, cheapest(list).Id))
	}
	return list
}

// cheapest returns the entry with the lowest rate, of several the last one.
func cheapest(list []Entry) Entry {
	least := list[0]
	for _, e := range list[1:] {
		if compareRates(e, least) <= 0 {
			least = e
		}
	}
	return least
}
