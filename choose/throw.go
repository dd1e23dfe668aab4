package choose

import (
	"cmp"
	"math"
	"slices"

	"strongbox/api"
)

// mostThrows is how often coins are selected by chance.
const mostThrows = 200

func (h hand) throw() ([]coin, api.Errno) {
	great, small := h.parted()
	// They are some of the coins of the hand, whose total is an amount.
	all, _ := total(small)
	if all < h.Need {
		if great == nil {
			return nil, api.ErrFunds
		}
		return great, api.OK
	}
	best, sum := h.best(small, all)
	if great != nil && sum != h.Need && great[0].worth <= sum {
		return great, api.OK
	}
	return best, api.OK
}

// parted returns the great coin, if there is one, and the small ones.
func (h hand) parted() (great, small []coin) {
	n := slices.IndexFunc(h.coins, func(c coin) bool { return c.worth < h.Need })
	if n < 0 {
		n = len(h.coins)
	}
	if n > 0 {
		least := slices.MinFunc(h.coins[:n], func(a, b coin) int { return cmp.Compare(a.worth, b.worth) })
		great = []coin{least}
	}
	return great, h.coins[n:]
}

// best returns the best selection of the small coins, and its total; that of all of them is enough.
func (h hand) best(small []coin, all int64) ([]coin, int64) {
	best, least := small, all
	d := newDice(h.Seed)
	for range min(h.Tries, mostThrows) {
		if a := h.attempt(small, d); a.least < least {
			best, least = a.coins(), a.least
		}
	}
	return best, least
}

// attempt is one selection by chance.
type attempt struct {
	need int64
	// The coins that are selected, and their total, which is less than what is needed.
	picked []coin
	sum    int64
	// What reaches the need with the least total: the first of these, as many as first says, and the last one. That total is endless as long as nothing reaches the need.
	first int
	last  coin
	least int64
}

const endless = math.MaxInt64

// attempt selects among the small coins in two passes.
func (h hand) attempt(small []coin, d *dice) *attempt {
	a := &attempt{need: h.Need, least: endless}
	var others []coin
	for _, c := range small {
		if d.throw() {
			a.pick(c)
		} else {
			others = append(others, c)
		}
	}
	if a.least == endless {
		for _, c := range others {
			a.pick(c)
		}
	}
	return a
}

// pick selects a coin more, unless the need is reached with it: then that selection is noted, and the coin removed again.
func (a *attempt) pick(c coin) {
	sum := a.sum + c.worth
	switch {
	case sum < a.need:
		a.picked, a.sum = append(a.picked, c), sum
	case sum < a.least:
		a.first, a.last, a.least = len(a.picked), c, sum
	}
}

// coins returns those that reach the need with the least total.
func (a *attempt) coins() []coin {
	return append(slices.Clone(a.picked[:a.first]), a.last)
}

// dice are random numbers.
type dice struct {
	x uint64
}

func newDice(seed uint64) *dice { return &dice{cmp.Or(seed, 1)} }

// throw takes the next number, and reports what it says.
func (d *dice) throw() bool {
	d.x ^= d.x << 13
	d.x ^= d.x >> 7
	d.x ^= d.x << 17
	return d.x>>63 == 1
}
