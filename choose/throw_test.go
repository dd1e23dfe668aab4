package choose_test

import (
	"math"
	"math/rand"
	"slices"
	"testing"

	"strongbox/api"
	"strongbox/choose"
)

func TestP23_3Examples(t *testing.T) {
	four := coins(5, 4, 3, 1)
	for need, want := range [][]int{{}, {3}, {2}, {2}, {2, 3}, {1, 3}, {0, 3}, {1, 2}, nil, nil, {0, 1, 3}, {0, 1, 2}, {0, 1, 2}, {0, 1, 2, 3}} {
		for _, seed := range []uint64{0, 1, 7, 1 << 63, math.MaxUint64} {
			task := choose.Task{Need: int64(need), Tries: 200, Seed: seed}
			if want != nil {
				expect(t, "Throw", choose.Throw, four, task, want, api.OK)
			} else if got, err := choose.Throw(four, task); err != api.OK || worthOf(four, task, got) != task.Need {
				t.Errorf("Throw for %d: %v, error %d", need, got, err)
			}
		}
	}
	expect(t, "Throw", choose.Throw, four, choose.Task{Need: 14, Tries: 200}, nil, api.ErrFunds)
	// Need 1: none is small, and nothing remains but the great coin.
	expect(t, "Throw", choose.Throw, coins(3, 1, 1), choose.Task{Need: 1, Tries: 200}, []int{1}, api.OK)
}

// TestP23_3Great: when the great coin is the result.
func TestP23_3Great(t *testing.T) {
	for _, c := range []struct {
		list []choose.Coin
		need int64
		want []int
		err  api.Errno
	}{
		// The small coins are too little.
		{coins(30, 20, 20, 5, 4), 10, []int{1}, api.OK},
		{coins(9, 30, 25), 10, []int{2}, api.OK},
		{coins(10), 10, []int{0}, api.OK},
		{coins(11), 10, []int{0}, api.OK},
		{coins(9), 10, nil, api.ErrFunds},
		{coins(5, 4), 10, nil, api.ErrFunds},
		{nil, 10, nil, api.ErrFunds},
		// They are exactly what is needed, which is better than the great coin, even if that is the same.
		{coins(10, 6, 4), 10, []int{1, 2}, api.OK},
		{coins(20, 6, 4), 10, []int{1, 2}, api.OK},
		{coins(6, 10, 4, 10), 10, []int{0, 2}, api.OK},
		// The best of them is more than that: then the great coin is better if it isn't greater.
		{coins(10, 6, 6), 10, []int{0}, api.OK},
		{coins(6, 11, 6), 10, []int{1}, api.OK},
		{coins(12, 6, 6, 12), 10, []int{0}, api.OK},
		{coins(13, 6, 6), 10, []int{1, 2}, api.OK},
		{coins(6, 6), 10, []int{0, 1}, api.OK},
		// The great coin is the least one of those, and the first one of these; all others are ignored.
		{coins(15, 12, 6, 11, 6, 11), 10, []int{3}, api.OK},
		{coins(13, 14, 6, 6), 10, []int{2, 3}, api.OK},
	} {
		for _, tries := range []int{0, 1, 200} {
			expect(t, "Throw", choose.Throw, c.list, choose.Task{Need: c.need, Tries: tries, Extra: 100, Seed: 5}, c.want, c.err)
		}
	}
}

// TestP23_3NoTries: without a try the best of the small coins are all of them.
func TestP23_3NoTries(t *testing.T) {
	for _, tries := range []int{0, -1, math.MinInt} {
		expect(t, "Throw", choose.Throw, coins(9, 8, 7, 1), choose.Task{Need: 10, Tries: tries}, []int{0, 1, 2, 3}, api.OK)
		expect(t, "Throw", choose.Throw, coins(9, 8, 7, 1, 26), choose.Task{Need: 10, Tries: tries}, []int{0, 1, 2, 3}, api.OK)
		expect(t, "Throw", choose.Throw, coins(9, 8, 25, 7, 1), choose.Task{Need: 10, Tries: tries}, []int{2}, api.OK)
	}
}

// TestP23_3Numbers: the first random number of Seed 1, reckoned by hand, and what those behind it say.
func TestP23_3Numbers(t *testing.T) {
	// 2^13 is added to 1; the 2^13 divided by 2^7 adds 2^6; these times 2^17 add 2^17, 2^30 and 2^23.
	x := plainNext(1)
	if x != 1<<0|1<<13|1<<6|1<<17|1<<30|1<<23 {
		t.Fatalf("the first random number is %x", x)
	}
	for i, says := range "..111111...1.111.1..1..." {
		if x>>63 == 1 != (says == '1') {
			t.Errorf("the random number %d is %x", i, x)
		}
		x = plainNext(x)
	}
}

// TestP23_3OneTry: the first tries of Seed 1, done by hand with the numbers of TestP23_3Numbers.
func TestP23_3OneTry(t *testing.T) {
	for _, c := range []struct {
		list  []choose.Coin
		need  int64
		tries int
		want  []int
	}{
		// First the 3; then the 5 reaches 7, and is removed again; then the 4 does, with less.
		{coins(5, 4, 3), 7, 1, []int{1, 2}},
		// The 4 doesn't, with the 5 removed.
		{coins(5, 4, 3), 8, 1, []int{0, 2}},
		// The 5 doesn't, and the 4 does.
		{coins(5, 4, 3), 9, 1, []int{0, 1, 2}},
		// The places in the list don't matter.
		{coins(3, 5, 4), 7, 1, []int{0, 2}},
		// First the 5, and the 4; the 3 reaches 10, and is removed again; then the 2 does, with less.
		{coins(9, 9, 5, 4, 3, 2), 10, 1, []int{2, 3, 5}},
		// The 3 reaches 12, and the 2 does not.
		{coins(9, 9, 5, 4, 3, 2), 12, 1, []int{2, 3, 4}},
		// In the first pass 12 and 11 reach 20, and so does each 11 behind that. In a second one 12 and 8 would, but that is omitted.
		{coins(13, 13, 12, 11, 11, 11, 11, 11, 8), 20, 1, []int{2, 3}},
		// One of equal totals is not less than the first of them.
		{coins(6, 6, 5, 5, 5), 10, 1, []int{2, 3}},
		// The 30 and the 50 don't reach 85, and all three are no less than all. The second try selects all in the first pass: the 50 and the 41 reach 85, and the 50 and the 30 do not.
		{coins(50, 41, 30), 85, 1, []int{0, 1, 2}},
		{coins(50, 41, 30), 85, 2, []int{0, 1}},
		// The first coins of the same seed, the great coin beside them.
		{coins(50, 41, 90, 30), 85, 1, []int{2}},
		{coins(50, 41, 91, 30), 85, 2, []int{2}},
		{coins(50, 41, 92, 30), 85, 1, []int{2}},
		{coins(50, 41, 92, 30), 85, 2, []int{0, 1}},
	} {
		for _, seed := range []uint64{0, 1} {
			expect(t, "Throw", choose.Throw, c.list, choose.Task{Need: c.need, Tries: c.tries, Seed: seed}, c.want, api.OK)
		}
	}
}

// counts: is the result another one if the last try is left out?
func counts(f way, list []choose.Coin, task choose.Task) bool {
	with, _ := f(list, task)
	task.Tries--
	without, _ := f(list, task)
	return !slices.Equal(with, without)
}

// TestP23_3Tries: at most 200 tries, of which the last one counts. Seeds for which the 200th or, if there were one, the 201st try matters are rare.
func TestP23_3Tries(t *testing.T) {
	r := rand.New(rand.NewSource(33))
	var list []choose.Coin
	for range 25 {
		list = append(list, choose.Coin{Value: 1 + r.Int63n(1<<40)})
	}
	more := func(list []choose.Coin, t choose.Task) ([]int, api.Errno) { return plainThrowOften(list, t, 201) }
	last, beyond := 0, 0
	for seed := uint64(1); seed < 1000 && (last == 0 || beyond == 0); seed++ {
		// Behind the first try the random numbers are those of another seed, whose 200th try would be the 201st.
		second := seed
		for range list {
			second = plainNext(second)
		}
		task := choose.Task{Need: 7 << 40, Seed: seed, Tries: 200}
		shifted, longer := task, task
		shifted.Seed, longer.Tries = second, 201
		switch {
		case counts(choose.Throw, list, task):
			last++
		case counts(choose.Throw, list, shifted) && counts(more, list, longer):
			beyond++
		default:
			continue
		}
		want, err := plainThrow(list, task)
		for _, task.Tries = range []int{200, 201, 202, 400, 100000, 100001, math.MaxInt} {
			expect(t, "Throw", choose.Throw, list, task, want, err)
		}
	}
	if last == 0 || beyond == 0 {
		t.Errorf("the 200th try counts %d times, the 201st %d times", last, beyond)
	}
}

// TestP23_3Seed: the same Seed yields the same result, 0 the same as 1, and another one possibly another one.
func TestP23_3Seed(t *testing.T) {
	r := rand.New(rand.NewSource(333))
	var list []choose.Coin
	for range 25 {
		list = append(list, choose.Coin{Value: 1 + r.Int63n(1<<40)})
	}
	results := map[uint64][]int{}
	others := 0
	for seed := range uint64(40) {
		task := choose.Task{Need: 8 << 40, Tries: 3, Seed: seed}
		got, err := choose.Throw(list, task)
		if err != api.OK {
			t.Fatalf("error %d", err)
		}
		for range 3 {
			expect(t, "Throw", choose.Throw, list, task, got, api.OK)
		}
		want, _ := plainThrow(list, task)
		expect(t, "Throw", choose.Throw, list, task, want, api.OK)
		results[seed] = got
		if !slices.Equal(got, results[0]) {
			others++
		}
	}
	if !slices.Equal(results[0], results[1]) {
		t.Errorf("Seed 0 isn't 1")
	}
	if others < 10 {
		t.Errorf("only %d Seeds have another result", others)
	}
}

// TestP23_3Worthless: coins that aren't worth anything are not among the small ones, and take no random number.
func TestP23_3Worthless(t *testing.T) {
	r := rand.New(rand.NewSource(30))
	for range 200 {
		var some, all []choose.Coin
		var places []int
		for range 12 {
			for range r.Intn(3) {
				all = append(all, choose.Coin{Value: int64(r.Intn(50)), Size: 50})
			}
			c := choose.Coin{Value: 51 + r.Int63n(1000), Size: 50}
			some, places, all = append(some, c), append(places, len(all)), append(all, c)
		}
		task := choose.Task{Need: 2000, Rate: 1000, Tries: 2, Seed: r.Uint64()}
		want, err := choose.Throw(some, task)
		for k, i := range want {
			want[k] = places[i]
		}
		expect(t, "Throw", choose.Throw, all, task, want, err)
	}
}

func TestP23_3Model(t *testing.T) {
	r := rand.New(rand.NewSource(303))
	for range 1000 {
		list := randomCoins(r, 20)
		task := randomTask(r, list)
		want, err := plainThrow(list, task)
		expect(t, "Throw", choose.Throw, list, task, want, err)
	}
}

// TestP23_3Choose: what Branch finds, and otherwise the result of Throw.
func TestP23_3Choose(t *testing.T) {
	four := coins(5, 4, 3, 1)
	expect(t, "Choose", choose.Choose, four, choose.Task{Need: 4, Tries: 100}, []int{1}, api.OK)
	expect(t, "Throw", choose.Throw, four, choose.Task{Need: 4, Tries: 100}, []int{2, 3}, api.OK)
	// With three tries Branch does not find the 4.
	expect(t, "Choose", choose.Choose, four, choose.Task{Need: 4, Tries: 3}, []int{2, 3}, api.OK)
	expect(t, "Choose", choose.Choose, four, choose.Task{Need: 8, Tries: 100}, []int{0, 2}, api.OK)
	// No coins are worth 11; Branch takes more with an Extra.
	expect(t, "Choose", choose.Choose, four, choose.Task{Need: 11, Tries: 100}, []int{0, 1, 2}, api.OK)
	expect(t, "Choose", choose.Choose, coins(9, 5), choose.Task{Need: 4, Tries: 100}, []int{1}, api.OK)
	expect(t, "Choose", choose.Choose, coins(9, 5), choose.Task{Need: 4, Tries: 100, Extra: 5}, []int{0}, api.OK)
	expect(t, "Choose", choose.Choose, four, choose.Task{Need: 14, Tries: 100, Extra: 100}, nil, api.ErrFunds)
	expect(t, "Choose", choose.Choose, four, choose.Task{Need: 0}, nil, api.OK)
}
