package choose_test

import (
	"math"
	"math/rand"
	"slices"
	"testing"

	"strongbox/api"
	"strongbox/choose"
)

func TestP23_2Examples(t *testing.T) {
	four := coins(5, 4, 3, 1)
	task := func(need, extra int64) choose.Task { return choose.Task{Need: need, Extra: extra, Tries: 100} }
	for need, want := range [][]int{{}, {3}, nil, {2}, {1}, {0}, {0, 3}, {1, 2}, {0, 2}, {0, 1}, {0, 1, 3}, nil, {0, 1, 2}, {0, 1, 2, 3}, nil} {
		err := api.OK
		if want == nil {
			err = api.ErrNone
		}
		expect(t, "Branch", choose.Branch, four, task(int64(need), 0), want, err)
	}
	// With an Extra the first one that is found is taken, although others are nearer.
	expect(t, "Branch", choose.Branch, four, task(2, 1), []int{2}, api.OK)
	expect(t, "Branch", choose.Branch, four, task(2, 2), []int{1}, api.OK)
	expect(t, "Branch", choose.Branch, four, task(2, 3), []int{0}, api.OK)
	expect(t, "Branch", choose.Branch, four, task(6, 1), []int{0, 3}, api.OK)
	expect(t, "Branch", choose.Branch, four, task(6, 2), []int{0, 2}, api.OK)
	expect(t, "Branch", choose.Branch, four, task(6, 3), []int{0, 1}, api.OK)
	expect(t, "Branch", choose.Branch, four, task(11, 0), nil, api.ErrNone)
	expect(t, "Branch", choose.Branch, four, task(11, 1), []int{0, 1, 2}, api.OK)
	expect(t, "Branch", choose.Branch, four, task(11, math.MaxInt64), []int{0, 1, 2}, api.OK)
	expect(t, "Branch", choose.Branch, four, task(13, math.MaxInt64), []int{0, 1, 2, 3}, api.OK)
	expect(t, "Branch", choose.Branch, four, task(14, math.MaxInt64), nil, api.ErrNone)
	expect(t, "Branch", choose.Branch, four, task(math.MaxInt64, math.MaxInt64), nil, api.ErrNone)
	// A negative Extra counts as 0, and so does a negative Need.
	expect(t, "Branch", choose.Branch, four, task(7, -1), []int{1, 2}, api.OK)
	expect(t, "Branch", choose.Branch, four, task(11, math.MinInt64), nil, api.ErrNone)
	expect(t, "Branch", choose.Branch, four, task(-5, 0), nil, api.OK)
	// Of equal ones the first one first, wherever they are in the list.
	expect(t, "Branch", choose.Branch, coins(1, 3, 5, 3, 3), task(6, 0), []int{0, 2}, api.OK)
	expect(t, "Branch", choose.Branch, coins(2, 3, 7, 3, 3), task(6, 0), []int{1, 3}, api.OK)
	// By worth.
	sized := []choose.Coin{{Value: 1000, Size: 500}, {Value: 700, Size: 100}, {Value: 450}}
	for need, want := range map[int64][]int{500: {0}, 600: {1}, 450: {2}, 950: {0, 2}, 1050: {1, 2}, 1100: {0, 1}, 1550: {0, 1, 2}} {
		expect(t, "Branch", choose.Branch, sized, choose.Task{Need: need, Rate: 1000, Tries: 100}, want, api.OK)
	}
	expect(t, "Branch", choose.Branch, sized, choose.Task{Need: 1000, Rate: 1000, Tries: 100}, nil, api.ErrNone)
}

// TestP23_2Tries: how many tries each result takes, the empty selection among them.
func TestP23_2Tries(t *testing.T) {
	for _, c := range []struct {
		list        []choose.Coin
		need, extra int64
		tries       int
		want        []int
	}{
		{coins(5, 4, 3, 1), 0, 0, 1, nil},
		{nil, 0, 0, 1, nil},
		{coins(5, 4, 3, 1), 5, 0, 2, []int{0}},
		{coins(5, 4, 3, 1), 9, 0, 3, []int{0, 1}},
		// (), 5, not 5, 4.
		{coins(5, 4, 3, 1), 4, 0, 4, []int{1}},
		// (), 5, 5 4, 5 not 4, 5 3.
		{coins(5, 4, 3, 1), 8, 0, 5, []int{0, 2}},
		// (), 5, 5 4, 5 not 4, 5 3, 5 not 3, 5 1.
		{coins(5, 4, 3, 1), 6, 0, 7, []int{0, 3}},
		// (), 5, 5 4, 5 4 3, 5 4 not 3, 5 4 1.
		{coins(5, 4, 3, 1), 10, 0, 6, []int{0, 1, 3}},
		// (), 5, 5 4, 5 not 4, 5 3, 5 not 3 (the 1 does not reach 7), not 5, 4, 4 3.
		{coins(5, 4, 3, 1), 7, 0, 9, []int{1, 2}},
		// The one that isn't worth anything takes no try.
		{coins(5, 0, 4), 4, 0, 4, []int{2}},
		{coins(1, 1, 1, 1, 1, 1, 1, 1, 1, 1), 10, 0, 11, []int{0, 1, 2, 3, 4, 5, 6, 7, 8, 9}},
	} {
		for _, tries := range []int{c.tries, c.tries + 1, 100000, 100001, math.MaxInt} {
			expect(t, "Branch", choose.Branch, c.list, choose.Task{Need: c.need, Extra: c.extra, Tries: tries}, c.want, api.OK)
			expect(t, "Choose", choose.Choose, c.list, choose.Task{Need: c.need, Extra: c.extra, Tries: tries}, c.want, api.OK)
		}
		for _, tries := range []int{c.tries - 1, 0, -1, math.MinInt} {
			expect(t, "Branch", choose.Branch, c.list, choose.Task{Need: c.need, Extra: c.extra, Tries: tries}, nil, api.ErrNone)
		}
	}
}

// TestP23_2MostTries: more than 100000 tries count as 100000.
func TestP23_2MostTries(t *testing.T) {
	// Each coin is ahead of many selections that are all too great or too small, until it is not selected.
	ones := func(n int) []choose.Coin { return slices.Repeat(coins(1), n) }
	for _, c := range []struct {
		n    int
		want api.Errno
	}{{99999, api.OK}, {100000, api.ErrNone}} {
		for _, tries := range []int{100000, 100001, math.MaxInt} {
			got, err := choose.Branch(ones(c.n), choose.Task{Need: int64(c.n), Tries: tries})
			if err != c.want || err == api.OK && len(got) != c.n || err != api.OK && got != nil {
				t.Errorf("Branch for %d of 1 with %d tries: %d, error %d", c.n, tries, len(got), err)
			}
		}
	}
	if _, err := choose.Branch(ones(99999), choose.Task{Need: 99999, Tries: 99999}); err != api.ErrNone {
		t.Errorf("Branch with one try too few: error %d", err)
	}
}

// TestP23_2All: with enough tries something is found exactly if there is something.
func TestP23_2All(t *testing.T) {
	r := rand.New(rand.NewSource(2))
	for range 1500 {
		list := randomCoins(r, 9)
		task := randomTask(r, list)
		task.Tries, task.Need, task.Extra = 100000, max(task.Need, 0), min(max(task.Extra, 0), 1<<40)
		there := false
		for set := range 1 << len(list) {
			sum := int64(0)
			for i, c := range list {
				if set>>i&1 == 1 {
					sum += choose.Worth(c, task.Rate)
				}
			}
			there = there || sum >= task.Need && sum <= task.Need+task.Extra
		}
		got, err := choose.Branch(list, task)
		if (err == api.OK) != there {
			t.Errorf("Branch of %v for %+v: %v, error %d", list, task, got, err)
		}
		if sum := worthOf(list, task, got); there && (sum < task.Need || sum > task.Need+task.Extra) {
			t.Errorf("Branch of %v for %+v: %v", list, task, got)
		}
	}
}

// TestP23_2Model: the same as the model at each number of tries.
func TestP23_2Model(t *testing.T) {
	r := rand.New(rand.NewSource(22))
	for range 60 {
		list := randomCoins(r, 10)
		task := randomTask(r, list)
		for task.Tries = range 60 {
			want, err := plainBranch(list, task)
			expect(t, "Branch", choose.Branch, list, task, want, err)
		}
	}
}
