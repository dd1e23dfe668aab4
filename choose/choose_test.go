package choose_test

import (
	"math"
	"math/rand"
	"slices"
	"testing"

	"strongbox/api"
	"strongbox/choose"
)

func TestP23_1Worth(t *testing.T) {
	for _, c := range []struct {
		value int64
		size  int
		rate  int64
		want  int64
	}{
		{1000, 150, 2000, 700}, {100, 150, 2000, 0}, {301, 150, 2000, 1}, {300, 150, 2000, 0}, {299, 150, 2000, 0},
		// A fee is rounded up.
		{1000, 150, 1, 999}, {1000, 1, 1, 999}, {1000, 1000, 1, 999}, {1000, 1001, 1, 998}, {1, 1, 1, 0},
		// Nothing to pay.
		{1000, 0, 2000, 1000}, {1000, 150, 0, 1000}, {0, 0, 0, 0}, {1, 0, 0, 1},
		// What isn't valid.
		{-1, 0, 0, 0}, {math.MinInt64, 150, 1000, 0}, {api.MaxMoney, 0, 0, api.MaxMoney}, {api.MaxMoney + 1, 0, 0, 0}, {math.MaxInt64, 0, 0, 0}, {math.MaxInt64, 1000, 1000, 0},
		{1000, -1, 0, 0}, {1000, -1, 2000, 0}, {1000, math.MinInt, 1, 0}, {1000000, api.MaxBlock, 1, 999000}, {1000000, api.MaxBlock + 1, 1, 0}, {1000000, api.MaxBlock + 1, 0, 0}, {1000, math.MaxInt, 0, 0},
		{1000, 150, -1, 0}, {1000, 0, -1, 0}, {1000, 0, math.MinInt64, 0}, {1000, 0, api.MaxMoney, 1000}, {1000, 0, api.MaxMoney + 1, 0}, {1000, 0, math.MaxInt64, 0},
		{api.MaxMoney, 1000, api.MaxMoney, 0}, {api.MaxMoney, 1000, api.MaxMoney - 1, 1}, {api.MaxMoney, 1001, api.MaxMoney, 0}, {api.MaxMoney, 999, api.MaxMoney, 2100000000000},
	} {
		if got := choose.Worth(choose.Coin{Value: c.value, Size: c.size}, c.rate); got != c.want {
			t.Errorf("Worth of %d, %d bytes at %d = %d; want %d", c.value, c.size, c.rate, got, c.want)
		}
	}
}

func TestP23_1AnyWorth(t *testing.T) {
	values := []int64{math.MinInt64, -1, 0, 1, 299, 300, 1000, 123456789, api.MaxMoney - 1, api.MaxMoney, api.MaxMoney + 1, math.MaxInt64}
	for _, v := range values {
		for _, size := range append([]int64{68, 148, api.MaxBlock - 1, api.MaxBlock, api.MaxBlock + 1}, values...) {
			for _, rate := range append([]int64{999, 2000, 2001, 2100000000, 2100000001}, values...) {
				c := choose.Coin{Value: v, Size: int(size)}
				if got := choose.Worth(c, rate); got != plainWorth(c, rate) {
					t.Errorf("Worth of %+v at %d = %d; want %d", c, rate, got, plainWorth(c, rate))
				}
			}
		}
	}
}

func TestP23_1Largest(t *testing.T) {
	four := coins(5, 4, 3, 1)
	for need, n := range []int{0, 1, 1, 1, 1, 1, 2, 2, 2, 2, 3, 3, 3, 4} {
		expect(t, "Largest", choose.Largest, four, choose.Task{Need: int64(need)}, []int{0, 1, 2, 3}[:n], api.OK)
	}
	expect(t, "Largest", choose.Largest, four, choose.Task{Need: 14}, nil, api.ErrFunds)
	expect(t, "Largest", choose.Largest, four, choose.Task{Need: math.MaxInt64}, nil, api.ErrFunds)
	// Neither Extra nor Tries nor the Seed matter.
	expect(t, "Largest", choose.Largest, four, choose.Task{Need: 6, Extra: -5, Tries: -1, Seed: 9}, []int{0, 1}, api.OK)
	// By worth, not by Value; of equal ones the first one first; the result in ascending order.
	mixed := []choose.Coin{{Value: 100, Size: 10}, {Value: 1000, Size: 990}, {Value: 90}, {Value: 95, Size: 5}, {Value: 3000, Size: 2000}}
	for need, want := range map[int64][]int{1: {4}, 1000: {4}, 1001: {0, 4}, 1090: {0, 4}, 1091: {0, 2, 4}, 1181: {0, 2, 3, 4}, 1271: {0, 1, 2, 3, 4}, 1280: {0, 1, 2, 3, 4}} {
		expect(t, "Largest", choose.Largest, mixed, choose.Task{Need: need, Rate: 1000}, want, api.OK)
	}
	expect(t, "Largest", choose.Largest, mixed, choose.Task{Need: 1281, Rate: 1000}, nil, api.ErrFunds)
	expect(t, "Largest", choose.Largest, coins(2, 9, 9, 9, 2), choose.Task{Need: 18}, []int{1, 2}, api.OK)
	expect(t, "Largest", choose.Largest, coins(1, 2, 9, 2, 2), choose.Task{Need: 12}, []int{1, 2, 3}, api.OK)
}

// TestP23_1Nothing: what isn't worth anything is never selected.
func TestP23_1Nothing(t *testing.T) {
	list := []choose.Coin{{Value: 0}, {Value: 50, Size: 50}, {Value: 51, Size: 50}, {Value: -7}, {Value: 10, Size: 20}, {Value: api.MaxMoney + 1}, {Value: 52, Size: 50}, {Value: 9, Size: -1}}
	for what, f := range ways() {
		expect(t, what, f[0], list, choose.Task{Need: 3, Rate: 1000, Tries: 100}, []int{2, 6}, api.OK)
		expect(t, what, f[0], list, choose.Task{Need: 0, Rate: 1000, Tries: 100}, nil, api.OK)
		for _, need := range []int64{0, -1, math.MinInt64} {
			expect(t, what, f[0], nil, choose.Task{Need: need, Tries: 1}, nil, api.OK)
			expect(t, what, f[0], coins(0, 0), choose.Task{Need: need, Tries: 1}, nil, api.OK)
			expect(t, what, f[0], coins(3, 5), choose.Task{Need: need, Tries: 1}, nil, api.OK)
		}
		none := api.ErrFunds
		if what == "Branch" {
			none = api.ErrNone
		}
		expect(t, what, f[0], nil, choose.Task{Need: 1, Tries: 100}, nil, none)
		expect(t, what, f[0], coins(0, 0), choose.Task{Need: 1, Tries: 100}, nil, none)
		expect(t, what, f[0], coins(5, 5), choose.Task{Need: 1, Tries: 100, Rate: -1}, nil, none)
		expect(t, what, f[0], coins(5, 5), choose.Task{Need: 1, Tries: 100, Rate: math.MaxInt64}, nil, none)
		expect(t, what, f[0], coins(5, 5), choose.Task{Need: 0, Tries: 100, Rate: -1}, nil, api.OK)
	}
}

// TestP23_1Range: the worths of all coins are together at most MaxMoney.
func TestP23_1Range(t *testing.T) {
	half := int64(api.MaxMoney / 2)
	for _, c := range []struct {
		list []choose.Coin
		rate int64
		err  api.Errno
	}{
		{coins(api.MaxMoney), 0, api.OK}, {coins(api.MaxMoney, 0, -1), 0, api.OK}, {coins(half, half), 0, api.OK},
		{coins(api.MaxMoney, 1), 0, api.ErrRange}, {coins(1, api.MaxMoney), 0, api.ErrRange}, {coins(half, half, 1), 0, api.ErrRange}, {coins(half, half, 0, half), 0, api.ErrRange},
		// What isn't an amount isn't worth anything.
		{coins(math.MaxInt64, api.MaxMoney+1, 5), 0, api.OK}, {coins(math.MaxInt64, api.MaxMoney, 1), 0, api.ErrRange}, {coins(api.MaxMoney, math.MinInt64, 1), 0, api.ErrRange},
		// So many that the sum would be beyond an int64.
		{slices.Repeat(coins(api.MaxMoney), 8785), 0, api.ErrRange}, {slices.Repeat(coins(api.MaxMoney), 8784), 0, api.ErrRange},
		// By worth, not by Value.
		{[]choose.Coin{{Value: api.MaxMoney, Size: 1}, {Value: 1}}, 1000, api.OK}, {[]choose.Coin{{Value: api.MaxMoney, Size: 1}, {Value: 2}}, 1000, api.ErrRange}, {[]choose.Coin{{Value: api.MaxMoney, Size: 1}, {Value: api.MaxMoney, Size: 2000}}, 1000, api.ErrRange},
	} {
		for what, f := range ways() {
			for _, need := range []int64{-1, 0} {
				expect(t, what, f[0], c.list, choose.Task{Need: need, Rate: c.rate, Tries: 1}, nil, c.err)
			}
			// Neither a lack of tries nor one of funds is seen ahead of that.
			if c.err != api.OK {
				expect(t, what, f[0], c.list, choose.Task{Need: math.MaxInt64, Rate: c.rate}, nil, c.err)
			}
		}
	}
}

func TestP23_1AnyTask(t *testing.T) {
	r := rand.New(rand.NewSource(23))
	for range 1500 {
		list := randomCoins(r, 12)
		expectModel(t, list, randomTask(r, list))
	}
	odd := []int64{math.MinInt64, math.MinInt64 + 1, -1, 0, 1, 7, api.MaxMoney, api.MaxMoney + 1, math.MaxInt64 - 1, math.MaxInt64}
	for _, a := range odd {
		for _, b := range odd {
			for _, c := range odd {
				list := []choose.Coin{{Value: c, Size: int(b)}, {Value: 7}, {Value: a, Size: int(c)}, {Value: 5, Size: 1}}
				expectModel(t, list, choose.Task{Need: a, Extra: b, Rate: c, Tries: int(a), Seed: uint64(b)})
				expectModel(t, list, choose.Task{Need: a, Extra: b, Tries: 50, Seed: uint64(c)})
			}
		}
	}
}

// TestP23_4Enough: what is selected is enough, and that there isn't enough is said exactly if all together are too little.
func TestP23_4Enough(t *testing.T) {
	r := rand.New(rand.NewSource(234))
	for range 3000 {
		list := randomCoins(r, 30)
		task := randomTask(r, list)
		all := int64(0)
		for _, c := range list {
			all += choose.Worth(c, task.Rate)
		}
		for what, f := range ways() {
			got, err := f[0](list, task)
			switch {
			case err == api.OK && worthOf(list, task, got) < task.Need:
				t.Errorf("%s of %v for %+v: %v aren't enough", what, list, task, got)
			case what != "Branch" && (err == api.ErrFunds) != (all < task.Need) || err != api.OK && what != "Branch" && err != api.ErrFunds:
				t.Errorf("%s of %v for %+v: error %d", what, list, task, err)
			case what == "Branch" && err != api.OK && err != api.ErrNone:
				t.Errorf("%s of %v for %+v: error %d", what, list, task, err)
			}
			for k, i := range got {
				if i < 0 || i >= len(list) || choose.Worth(list[i], task.Rate) == 0 || k > 0 && got[k-1] >= i {
					t.Errorf("%s of %v for %+v: %v", what, list, task, got)
				}
			}
		}
	}
}

// TestP23_4Edge: just enough, and one too little.
func TestP23_4Edge(t *testing.T) {
	list := []choose.Coin{{Value: 5, Size: 1}, {Value: 70}, {Value: 8, Size: 9}, {Value: 30, Size: 3}}
	for what, f := range ways() {
		expect(t, what, f[0], list, choose.Task{Need: 101, Rate: 1000, Tries: 100}, []int{0, 1, 3}, api.OK)
		err := api.ErrFunds
		if what == "Branch" {
			err = api.ErrNone
		}
		expect(t, what, f[0], list, choose.Task{Need: 102, Rate: 1000, Tries: 100}, nil, err)
	}
	for _, what := range []string{"Largest", "Throw", "Choose"} {
		expect(t, what, ways()[what][0], list, choose.Task{Need: 101, Rate: 1000}, []int{0, 1, 3}, api.OK)
	}
}

// TestP23_4Many: a long list is no obstacle.
func TestP23_4Many(t *testing.T) {
	r := rand.New(rand.NewSource(4))
	var list []choose.Coin
	for range 30000 {
		list = append(list, choose.Coin{Value: 1 + r.Int63n(1000000), Size: r.Intn(200)})
	}
	for what, f := range ways() {
		for _, need := range []int64{1, 123456789, 9000000000} {
			task := choose.Task{Need: need, Extra: 5, Rate: 1000, Tries: 100000, Seed: 3}
			got, err := f[0](list, task)
			if err == api.OK && worthOf(list, task, got) < need || what != "Branch" && err != api.OK {
				t.Errorf("%s of many for %d: %d, error %d", what, need, len(got), err)
			}
		}
	}
}

// TestP23_5Memory: nothing that is passed is changed, and results are new memory.
func TestP23_5Memory(t *testing.T) {
	list := coins(5, 4, 3, 1, 8, 8)
	given := append(slices.Clone(list), coins(99, 98)...)[:len(list)]
	for what, f := range ways() {
		for need := range int64(30) {
			task := choose.Task{Need: need, Extra: 1, Tries: 50, Seed: 4}
			first, err := f[0](given, task)
			second, again := f[0](given, task)
			if err != again || !slices.Equal(first, second) {
				t.Errorf("%s for %d: %v, error %d; then %v, %d", what, need, first, err, second, again)
			}
			want := slices.Clone(first)
			for i := range second[:cap(second)] {
				second[:cap(second)][i] = -1
			}
			if third, _ := f[0](given, task); !slices.Equal(first, want) || !slices.Equal(third, want) {
				t.Errorf("%s for %d: results share memory", what, need)
			}
			if !slices.Equal(given, list) || !slices.Equal(given[:8][6:], coins(99, 98)) {
				t.Errorf("%s for %d: the list was changed", what, need)
			}
		}
	}
}
