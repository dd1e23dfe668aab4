package choose

import (
	"cmp"
	"slices"

	"strongbox/amount"
	"strongbox/api"
)

// mostTries is how many tries a task can have.
const mostTries = 100000

// hand is a task with the coins that can be selected for it: those that are worth something, the greatest worth first.
type hand struct {
	Task
	coins []coin
	total int64
}

// coin is what a coin is worth, and its place in the list.
type coin struct {
	worth int64
	place int
}

// deal returns the hand of a task.
func deal(list []Coin, t Task) (hand, api.Errno) {
	h := hand{Task: t.limited()}
	for i, c := range list {
		if worth := Worth(c, t.Rate); worth > 0 {
			h.coins = append(h.coins, coin{worth, i})
		}
	}
	slices.SortStableFunc(h.coins, func(a, b coin) int { return cmp.Compare(b.worth, a.worth) })
	var err api.Errno
	h.total, err = total(h.coins)
	return h, err
}

func (t Task) limited() Task {
	t.Need, t.Extra = max(t.Need, 0), max(t.Extra, 0)
	t.Tries = min(max(t.Tries, 0), mostTries)
	return t
}

// total returns the total of coins, or ErrRange if there is no such amount.
func total(coins []coin) (int64, api.Errno) {
	var list []int64
	for _, c := range coins {
		list = append(list, c.worth)
	}
	return amount.Add(list...)
}

func (h hand) largest() ([]coin, api.Errno) {
	n := 0
	for sum := int64(0); sum < h.Need; n++ {
		if n == len(h.coins) {
			return nil, api.ErrFunds
		}
		sum += h.coins[n].worth
	}
	return h.coins[:n], api.OK
}

func (h hand) choose() ([]coin, api.Errno) {
	if coins, err := h.branch(); err == api.OK {
		return coins, api.OK
	}
	return h.throw()
}
