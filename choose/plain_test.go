package choose_test

import (
	"math"
	"math/big"
	"math/rand"
	"slices"
	"testing"

	"strongbox/api"
	"strongbox/choose"
)

// way is one of the functions that select.
type way func(list []choose.Coin, t choose.Task) ([]int, api.Errno)

// ways are all of them, each with its model.
func ways() map[string][2]way {
	return map[string][2]way{
		"Largest": {choose.Largest, plainLargest},
		"Branch":  {choose.Branch, plainBranch},
		"Throw":   {choose.Throw, plainThrow},
		"Choose":  {choose.Choose, plainChoose},
	}
}

// plainWorth is Worth as the document says it, in numbers without an end.
func plainWorth(c choose.Coin, rate int64) int64 {
	most := big.NewInt(21000000 * 100000000)
	amount := func(x *big.Int) bool { return x.Sign() >= 0 && x.Cmp(most) <= 0 }
	fee := new(big.Int).Mul(big.NewInt(rate), big.NewInt(int64(c.Size)))
	fee.Add(fee, big.NewInt(999)).Div(fee, big.NewInt(1000))
	if c.Size < 0 || c.Size > 1000000 || !amount(big.NewInt(rate)) || !amount(fee) || !amount(big.NewInt(c.Value)) {
		return 0
	}
	worth := fee.Sub(big.NewInt(c.Value), fee)
	if worth.Sign() < 0 {
		return 0
	}
	return worth.Int64()
}

// plainHand is what a task is and what coins are worth.
type plainHand struct {
	choose.Task
	worths []int64
}

func plainDeal(list []choose.Coin, t choose.Task) (plainHand, api.Errno) {
	h := plainHand{Task: t}
	if t.Need < 0 {
		h.Need = 0
	}
	if t.Extra < 0 {
		h.Extra = 0
	}
	if t.Tries < 0 {
		h.Tries = 0
	}
	if t.Tries > 100000 {
		h.Tries = 100000
	}
	sum := new(big.Int)
	for _, c := range list {
		h.worths = append(h.worths, plainWorth(c, t.Rate))
		sum.Add(sum, big.NewInt(plainWorth(c, t.Rate)))
	}
	if sum.Cmp(big.NewInt(2100000000000000)) > 0 {
		return plainHand{}, api.ErrRange
	}
	return h, api.OK
}

// descending returns the coins with a worth that is at least one and below another, the greatest first.
func (h plainHand) descending(least, below int64) []int {
	var list []int
	for {
		next := -1
		for i, w := range h.worths {
			if w >= max(least, 1) && w < below && !slices.Contains(list, i) && (next < 0 || w > h.worths[next]) {
				next = i
			}
		}
		if next < 0 {
			return list
		}
		list = append(list, next)
	}
}

func (h plainHand) total(places []int) int64 {
	sum := int64(0)
	for _, i := range places {
		sum += h.worths[i]
	}
	return sum
}

func plainLargest(list []choose.Coin, t choose.Task) ([]int, api.Errno) {
	h, err := plainDeal(list, t)
	if err != api.OK {
		return nil, err
	}
	all := h.descending(1, math.MaxInt64)
	for n := range len(all) + 1 {
		if h.total(all[:n]) >= h.Need {
			return sorted(all[:n]), api.OK
		}
	}
	return nil, api.ErrFunds
}

// plainBranch goes from each step to the next one: true and false say of the first coins whether they are selected.
func plainBranch(list []choose.Coin, t choose.Task) ([]int, api.Errno) {
	h, err := plainDeal(list, t)
	if err != api.OK {
		return nil, err
	}
	all := h.descending(1, math.MaxInt64)
	var step []bool
	for range h.Tries {
		var places []int
		for k, is := range step {
			if is {
				places = append(places, all[k])
			}
		}
		sum := h.total(places)
		if sum >= h.Need && new(big.Int).Sub(big.NewInt(sum), big.NewInt(h.Need)).Cmp(big.NewInt(h.Extra)) <= 0 {
			return sorted(places), api.OK
		}
		if sum < h.Need && sum+h.total(all[len(step):]) >= h.Need {
			step = append(step, true)
			continue
		}
		for len(step) > 0 && !step[len(step)-1] {
			step = step[:len(step)-1]
		}
		if len(step) == 0 {
			break
		}
		step[len(step)-1] = false
	}
	return nil, api.ErrNone
}

// plainThrow is Throw as the document says it, with each selection as a whole.
func plainThrow(list []choose.Coin, t choose.Task) ([]int, api.Errno) {
	return plainThrowOften(list, t, 200)
}

// plainThrowOften is that with at most so many tries.
func plainThrowOften(list []choose.Coin, t choose.Task, most int) ([]int, api.Errno) {
	h, err := plainDeal(list, t)
	if err != api.OK {
		return nil, err
	}
	var great []int
	for i, w := range h.worths {
		if w > 0 && w >= h.Need && (great == nil || w < h.worths[great[0]]) {
			great = []int{i}
		}
	}
	small := h.descending(1, h.Need)
	if h.total(small) < h.Need {
		if great == nil {
			return nil, api.ErrFunds
		}
		return great, api.OK
	}
	best := slices.Clone(small)
	x := h.Seed
	if x == 0 {
		x = 1
	}
	for range min(h.Tries, most) {
		var picked []int
		reached := false
		for pass := 1; pass <= 2 && !reached; pass++ {
			for _, i := range small {
				picks := !slices.Contains(picked, i)
				if pass == 1 {
					x = plainNext(x)
					picks = x&(1<<63) != 0
				}
				if !picks {
					continue
				}
				picked = append(picked, i)
				if h.total(picked) >= h.Need {
					reached = true
					if h.total(picked) < h.total(best) {
						best = slices.Clone(picked)
					}
					picked = picked[:len(picked)-1]
				}
			}
		}
	}
	if great != nil && h.total(best) != h.Need && h.worths[great[0]] <= h.total(best) {
		return great, api.OK
	}
	return sorted(best), api.OK
}

// plainNext is the random number behind another one.
func plainNext(x uint64) uint64 {
	two := func(n uint) *big.Int { return new(big.Int).Lsh(big.NewInt(1), n) }
	n := new(big.Int).SetUint64(x)
	n.Xor(n, new(big.Int).Mod(new(big.Int).Mul(n, two(13)), two(64)))
	n.Xor(n, new(big.Int).Div(n, two(7)))
	n.Xor(n, new(big.Int).Mod(new(big.Int).Mul(n, two(17)), two(64)))
	return n.Uint64()
}

func plainChoose(list []choose.Coin, t choose.Task) ([]int, api.Errno) {
	if got, err := plainBranch(list, t); err == api.OK {
		return got, err
	}
	return plainThrow(list, t)
}

func sorted(places []int) []int { return slices.Sorted(slices.Values(places)) }

// coins returns coins with these Values that cost nothing to spend.
func coins(values ...int64) []choose.Coin {
	var list []choose.Coin
	for _, v := range values {
		list = append(list, choose.Coin{Value: v})
	}
	return list
}

// worthOf returns what selected coins are worth.
func worthOf(list []choose.Coin, t choose.Task, places []int) int64 {
	sum := int64(0)
	for _, i := range places {
		sum += choose.Worth(list[i], t.Rate)
	}
	return sum
}

// expect: a way selects these coins, and with an error none.
func expect(t *testing.T, what string, f way, list []choose.Coin, task choose.Task, want []int, err api.Errno) {
	t.Helper()
	got, e := f(list, task)
	if e != err || !slices.Equal(got, want) {
		t.Errorf("%s of %v for %+v: %v, error %d; want %v, %d", what, list, task, got, e, want, err)
	}
}

// expectModel: all ways select what their models select.
func expectModel(t *testing.T, list []choose.Coin, task choose.Task) {
	t.Helper()
	for what, f := range ways() {
		want, err := f[1](list, task)
		expect(t, what, f[0], list, task, want, err)
	}
}

// randomCoins returns up to so many coins, among them equal ones, some that aren't worth anything, and some that can't be.
func randomCoins(r *rand.Rand, most int) []choose.Coin {
	var list []choose.Coin
	top := int64(5) << r.Intn(12)
	for range r.Intn(most + 1) {
		c := choose.Coin{Value: r.Int63n(top), Size: 60 + r.Intn(100)}
		switch r.Intn(12) {
		case 0:
			c.Size = r.Intn(3) - 1
		case 1:
			c.Value = -c.Value
		case 2:
			c.Value = api.MaxMoney + 1 + c.Value
		case 3:
			c.Size = api.MaxBlock + r.Intn(2)
		}
		list = append(list, c)
	}
	return list
}

// randomTask returns a task for coins, with a need that is near to what some of them are worth.
func randomTask(r *rand.Rand, list []choose.Coin) choose.Task {
	t := choose.Task{Seed: r.Uint64(), Tries: r.Intn(300) - 2, Rate: []int64{0, 0, 1, 500, 1000, 7000}[r.Intn(6)]}
	for _, c := range list {
		if r.Intn(2) == 0 {
			t.Need += choose.Worth(c, t.Rate)
		}
	}
	t.Need += []int64{0, 0, 1, -1, 5, -5}[r.Intn(6)]
	t.Extra = []int64{0, 0, 1, 5, 100, -1, math.MaxInt64}[r.Intn(7)]
	if r.Intn(8) == 0 {
		t.Seed = 0
	}
	return t
}
