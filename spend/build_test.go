package spend_test

import (
	"bytes"
	"math"
	"math/rand"
	"slices"
	"testing"

	"strongbox/api"
	"strongbox/choose"
	"strongbox/spend"
	"strongbox/tx"
)

// TestP25_1Example is the chapter's example.
func TestP25_1Example(t *testing.T) {
	w := rich(t, forms()[:1], 50*api.Coin)
	x, err := w.expectBuild(t, "the example", spend.Order{Pay: pay(open(), 10*api.Coin), Rate: 1000})
	if err != api.OK || len(x.In) != 1 || len(x.Out) != 2 || x.Version != 2 || x.Lock != 0 || x.In[0].Seq != math.MaxUint32-2 {
		t.Fatalf("Build = %v, error %d", x, err)
	}
	rest := 40*api.Coin - x.Out[1].Value
	if x.Out[0].Value != 10*api.Coin || rest != 118 || !bytes.Equal(x.Out[1].Script, w.script(0, 1)) {
		t.Errorf("the outputs are %v", x.Out)
	}
}

// TestP25_1Order: of the errors of an order, the one with the least number.
func TestP25_1Order(t *testing.T) {
	w := rich(t, forms()[:2], 50*api.Coin)
	good := func() spend.Order {
		return spend.Order{Pay: pay(open(), api.Coin, api.Coin, api.Coin), Rate: 1000, Change: 1}
	}
	faults := []func(o *spend.Order){
		func(o *spend.Order) { o.Pay = nil },
		func(o *spend.Order) { o.Pay = slices.Concat(o.Pay, pay(open(), make([]int64, 98)...)) },
		func(o *spend.Order) { o.Way = -1 },
		func(o *spend.Order) { o.Way = 4 },
		func(o *spend.Order) { o.Change = -1 },
		func(o *spend.Order) { o.Change = 2 },
		func(o *spend.Order) { o.Pay = append(o.Pay, pay(open(), -1)...) },
		func(o *spend.Order) { o.Pay = append(o.Pay, pay(open(), api.MaxMoney+1)...) },
		func(o *spend.Order) { o.Pay = append(o.Pay, pay(open(), api.MaxMoney-2*api.Coin)...) },
		func(o *spend.Order) { o.Rate = 999 },
		func(o *spend.Order) { o.Pay = append(o.Pay, pay(open(), 473)...) },
		func(o *spend.Order) { o.Pay = append(o.Pay, pay(open(), 1000*api.Coin)...) },
	}
	alone := []api.Errno{api.ErrArg, api.ErrArg, api.ErrArg, api.ErrArg, api.ErrArg, api.ErrArg, api.ErrRange, api.ErrRange, api.ErrRange, api.ErrFee, api.ErrFee, api.ErrFunds}
	for i, one := range faults {
		for j, other := range faults {
			for k, third := range faults {
				o := good()
				one(&o)
				other(&o)
				third(&o)
				_, err := w.expectBuild(t, "a wrong order", o)
				if i == j && j == k && err != alone[i] {
					t.Errorf("fault %d: error %d; want %d", i, err, alone[i])
				}
			}
		}
	}
	if _, err := w.expectBuild(t, "a right order", good()); err != api.OK {
		t.Errorf("error %d", err)
	}
}

// TestP25_1Numbers: any numbers whatsoever.
func TestP25_1Numbers(t *testing.T) {
	w := rich(t, forms()[:2], 50*api.Coin)
	wild := []int64{math.MinInt64, -1 << 32, -1, 0, 1, 3, 4, 99, 999, 1000, 1001, api.MaxMoney - 1, api.MaxMoney, api.MaxMoney + 1, 1 << 62, math.MaxInt64}
	for _, n := range wild {
		w.expectBuild(t, "a rate", spend.Order{Pay: pay(open(), api.Coin), Rate: n})
		w.expectBuild(t, "a value", spend.Order{Pay: pay(open(), n), Rate: 1000})
		w.expectBuild(t, "values", spend.Order{Pay: pay(open(), api.Coin, n, n), Rate: 1000})
		w.expectBuild(t, "a way", spend.Order{Pay: pay(open(), api.Coin), Rate: 1000, Way: int(n)})
		w.expectBuild(t, "a descriptor", spend.Order{Pay: pay(open(), api.Coin), Rate: 1000, Change: int(n)})
		w.expectBuild(t, "a seed", spend.Order{Pay: pay(open(), api.Coin), Rate: 1000, Way: 3, Seed: uint64(n)})
	}
	for _, c := range []struct {
		rate int64
		err  api.Errno
	}{{math.MinInt64, api.ErrFee}, {0, api.ErrFee}, {999, api.ErrFee}, {1000, api.OK}, {1 << 34, api.OK}, {1 << 40, api.ErrFunds}, {api.MaxMoney, api.ErrFunds}, {api.MaxMoney + 1, api.ErrFee}, {math.MaxInt64, api.ErrFee}} {
		o := spend.Order{Pay: pay(open(), api.Coin), Rate: c.rate}
		if _, err := w.expectBuild(t, "a rate", o); err != c.err {
			t.Errorf("the rate %d: error %d; want %d", c.rate, err, c.err)
		}
	}
}

// TestP25_1Long: what outputs with long scripts must have, and what they cost.
func TestP25_1Long(t *testing.T) {
	w := rich(t, forms()[:1], 50*api.Coin)
	for _, n := range []int{0, 1, 34, 252, 253, 254, 10000, 70000} {
		script := bytes.Repeat([]byte{0x51}, n)
		least := int64(3*(9+n) + 444)
		if n >= 253 {
			least += 6
		}
		for _, c := range []struct {
			value int64
			err   api.Errno
		}{{least - 1, api.ErrFee}, {least, api.OK}} {
			o := spend.Order{Pay: pay(script, c.value), Rate: 1500}
			if _, err := w.expectBuild(t, "a long script", o); err != c.err {
				t.Errorf("%d bytes, the value %d: error %d; want %d", n, c.value, err, c.err)
			}
		}
	}
	// 1000000 bytes: 22 of the change, with 9; 13 of the frame; 11 of the output.
	for _, c := range []struct {
		bytes int
		err   api.Errno
	}{{999945, api.ErrFunds}, {999946, api.ErrFee}, {999947, api.ErrFee}, {2000000, api.ErrFee}} {
		o := spend.Order{Pay: pay(make([]byte, c.bytes), 100*api.Coin), Rate: 1000}
		if _, err := w.expectBuild(t, "a very long script", o); err != c.err {
			t.Errorf("%d bytes: error %d; want %d", c.bytes, err, c.err)
		}
	}
	o := spend.Order{Pay: pay(open(), 1000, 1000), Rate: api.MaxMoney}
	if _, err := w.expectBuild(t, "the greatest fee", o); err != api.ErrFunds {
		t.Errorf("error %d", err)
	}
	o.Pay = append(o.Pay, pay(make([]byte, 1000), 10000)...)
	if _, err := w.expectBuild(t, "more than the greatest fee", o); err != api.ErrFee {
		t.Errorf("error %d", err)
	}
	if _, err := w.expectBuild(t, "100 outputs", spend.Order{Pay: pay(open(), slices.Repeat([]int64{1000}, 100)...), Rate: 1000}); err != api.OK {
		t.Errorf("100 outputs: error %d", err)
	}
}

// TestP25_1Full: a descriptor whose indices are all handed out has no change, which is asked behind the order, and ahead of the coins.
func TestP25_1Full(t *testing.T) {
	t.Parallel()
	w := rich(t, []string{"wpkh(" + key(0) + "/*)", "wpkh(" + key(1) + ")"}, api.Coin)
	for range 4998 {
		w.Ring.Take(0)
	}
	o := spend.Order{Pay: pay(open(), api.Coin/2), Rate: 1000}
	if x, err := w.expectBuild(t, "the last index", o); err != api.OK || len(x.Out) != 2 {
		t.Errorf("the last index: error %d", err)
	}
	w.Ring.Take(0)
	for _, c := range []struct {
		value, rate int64
		change      int
		err         api.Errno
	}{{api.Coin / 2, 1000, 0, api.ErrFull}, {10 * api.Coin, 1000, 0, api.ErrFull}, {api.Coin / 2, api.MaxMoney + 1, 0, api.ErrFull}, {1, 1000, 0, api.ErrFee}, {api.Coin / 2, 1000, 1, api.OK}} {
		o := spend.Order{Pay: pay(open(), c.value), Rate: c.rate, Change: c.change}
		if _, err := w.expectBuild(t, "no index", o); err != c.err {
			t.Errorf("%v: error %d", c, err)
		}
	}
}

// TestP25_1Change: what remains is returned if it is no dust.
func TestP25_1Change(t *testing.T) {
	t.Parallel()
	for n, form := range forms() {
		w := rich(t, []string{form, "pkh(" + key(13) + "/*)"}, api.Coin)
		w.lockAll(1)
		for change := range 2 {
			most := spend.Order{Pay: pay(open(), 10000), Rate: 3333, Way: 1, Change: change}
			x, err := w.expectBuild(t, "much remains", most)
			if err != api.OK || len(x.Out) != 2 {
				t.Fatalf("form %d: error %d", n, err)
			}
			least := plainDust(x.Out[1])
			for rest := least - 3; rest <= least+3; rest++ {
				o := most
				o.Pay = pay(open(), 10000+x.Out[1].Value-rest)
				y, err := w.expectBuild(t, "little remains", o)
				if err != api.OK || (len(y.Out) == 2) != (rest >= least) || len(y.Out) == 2 && y.Out[1].Value != rest {
					t.Errorf("form %d: what remains is %d, of at least %d: %v, error %d", n, rest, least, y.Out, err)
				}
			}
		}
	}
}

// lockAll locks the coins of a descriptor.
func (w *wallet) lockAll(desc int) {
	for _, e := range w.Coins(w.View) {
		if p, _ := w.Ring.Find(e.Coin.Out.Script); p.Desc == desc {
			w.Lock(e.Place, true)
		}
	}
}

// TestP25_1Sources: coins that can't be signed for are not selected, and neither are those that are not spendable.
func TestP25_1Sources(t *testing.T) {
	t.Parallel()
	var long []int
	for n := range 16 {
		long = append(long, 40+n)
	}
	for _, c := range []struct {
		desc  string
		coins int
	}{
		{"wpkh(" + shown(1) + "/*)", 0}, {"pkh(" + shown(1) + "/*)", 0},
		{"wsh(multi(2," + shown(1) + "/*," + shown(2) + "/*" + keys(3) + "))", 0},
		{"wsh(multi(2," + shown(1) + "/*" + keys(2, 3) + "))", 2},
		{"multi(2," + key(1) + "," + shown(2) + ")", 0},
		// What is pushed may not have more than 520 bytes.
		{"sh(multi(1" + keys(long...) + "))", 0}, {"sh(multi(1" + keys(long[1:]...) + "))", 2}, {"wsh(multi(1" + keys(long...) + "))", 2},
	} {
		w := rich(t, []string{c.desc, "wpkh(" + key(99) + "/*)"}, api.Coin, 2*api.Coin)
		if got := len(w.Spendable(w.View)); got != 4 {
			t.Fatalf("%s: %d are spendable", c.desc, got)
		}
		w.lockAll(1)
		for way := range 4 {
			o := spend.Order{Pay: pay(open(), 290000000), Rate: 1000, Way: way}
			x, err := w.expectBuild(t, c.desc, o)
			if able := c.coins > 0 && way != 2; (len(x.In) == 2) != able || (err == api.OK) != able {
				t.Errorf("%s, way %d: %d inputs, error %d", c.desc[:20], way, len(x.In), err)
			}
		}
	}
	w := rich(t, forms()[:1], api.Coin, 2*api.Coin)
	w.mine(t, pay(w.script(0, 1), 40*api.Coin))
	o := spend.Order{Pay: pay(open(), 290000000), Rate: 1000}
	x, _ := w.expectBuild(t, "a young coin", o)
	o.Pay[0].Value = 4 * api.Coin
	if _, err := w.expectBuild(t, "a young coin", o); err != api.ErrFunds || len(x.In) != 2 {
		t.Errorf("a young coin is selected")
	}
	w.Pool.Add(w.Chain, x)
	o.Pay[0].Value = api.Coin / 2
	if _, err := w.expectBuild(t, "coins that something waiting spends", o); err != api.ErrFunds {
		t.Errorf("coins are selected twice: error %d", err)
	}
}

// TestP25_1Ways: the number of the way says how coins are selected.
func TestP25_1Ways(t *testing.T) {
	t.Parallel()
	w := rich(t, forms()[:1], 20011, 23027, 27109, 29501, 33331, 36007, 41203, 44959, 50021, 58013)
	_, list := plainSources(w)
	_, change, _ := w.Ring.Clone().Take(0)
	different := map[int]int{}
	for value := int64(30000); value < 370000; value += 49001 {
		o := spend.Order{Pay: pay(open(), value), Rate: 1000, Seed: uint64(value)}
		need, _ := plainNeed(o, change)
		task := choose.Task{Need: need, Extra: 537, Rate: 1000, Tries: 10000, Seed: o.Seed}
		var got [4][]api.TxIn
		for way, f := range []func([]choose.Coin, choose.Task) ([]int, api.Errno){choose.Choose, choose.Largest, choose.Branch, choose.Throw} {
			o.Way = way
			chosen, want := f(list, task)
			x, err := w.expectBuild(t, "a way", o)
			if err != want || len(x.In) != len(chosen) {
				t.Errorf("way %d: %d inputs, error %d; want %d, error %d", way, len(x.In), err, len(chosen), want)
			}
			got[way] = x.In
			if !slices.EqualFunc(x.In, got[0], func(a, b api.TxIn) bool { return a.Prev == b.Prev }) {
				different[way]++
			}
		}
	}
	if len(different) < 3 {
		t.Errorf("some ways always select the same: %v", different)
	}
}

// TestP25_1Extra: without change, no more may remain than what would be dust as change.
func TestP25_1Extra(t *testing.T) {
	w := rich(t, forms()[:1], 200000, 300000)
	o := spend.Order{Pay: pay(open(), 100000), Rate: 1234, Way: 2}
	o.Pay[0].Value += w.spare(o)
	const extra = 3*31 + 444
	for less, want := range map[int64]api.Errno{-1: api.ErrNone, 0: api.OK, 1: api.OK, extra: api.OK, extra + 1: api.ErrNone} {
		little := o
		little.Pay = pay(open(), o.Pay[0].Value-less)
		if _, err := w.expectBuild(t, "just as much", little); err != want {
			t.Errorf("%d less than there is: error %d; want %d", less, err, want)
		}
	}
}

// TestP25_1Seed: the random numbers come of the seed.
func TestP25_1Seed(t *testing.T) {
	t.Parallel()
	var list []int64
	for n := range int64(14) {
		list = append(list, 40000+n*n*997)
	}
	w := rich(t, forms()[:1], list...)
	found := map[string]int{}
	for seed := range uint64(12) {
		x, err := w.expectBuild(t, "a seed", spend.Order{Pay: pay(open(), 700000), Rate: 1000, Way: 3, Seed: seed * 0x9e3779b97f4a7c15})
		if err != api.OK {
			t.Fatalf("error %d", err)
		}
		found[string(tx.Encode(api.Tx{In: x.In}, false))]++
	}
	if len(found) < 2 {
		t.Errorf("all seeds select the same")
	}
}

// randomOrder returns an order that a wallet can mostly pay.
func randomOrder(r *rand.Rand, w *wallet, total int64) spend.Order {
	o := spend.Order{Rate: 1000 + r.Int63n(1<<uint(r.Intn(15))), Way: r.Intn(4), Seed: r.Uint64(), Change: r.Intn(len(w.Ring.Texts()))}
	for range 1 + r.Intn(4) {
		script := bytes.Repeat([]byte{0x51}, []int{1, 22, 34, 252, 253, 300}[r.Intn(6)])
		if r.Intn(2) == 0 {
			all := w.Ring.Scripts()
			script = all[r.Intn(len(all))]
		}
		o.Pay = append(o.Pay, pay(script, 1400+r.Int63n(total/3))...)
	}
	return o
}

// TestP25_2Random: whatever is ordered, it is paid, of coins of all forms.
func TestP25_2Random(t *testing.T) {
	t.Parallel()
	r := rand.New(rand.NewSource(25))
	errs, changes := map[api.Errno]int{}, map[int]int{}
	for range 10 {
		w := walletOf(t, 2, forms()...)
		total := int64(0)
		for range 3 {
			var outs []api.TxOut
			for range 1 + r.Intn(6) {
				all := w.Ring.Scripts()
				outs = append(outs, pay(all[r.Intn(len(all))], 10000+r.Int63n(1<<uint(10+r.Intn(12))))...)
				total += outs[len(outs)-1].Value
			}
			w.mine(t, outs)
		}
		w.grow(t)
		for range 10 {
			o := randomOrder(r, w, total)
			x, err := w.expectBuild(t, "a random order", o)
			errs[err]++
			if err == api.OK {
				changes[len(x.Out)-len(o.Pay)]++
			}
			if err == api.OK && r.Intn(3) == 0 {
				w.Pool.Add(w.Chain, x)
				w.Add(x)
				if r.Intn(3) == 0 {
					w.mine(t, pay(open(), 1), x)
				}
			}
		}
	}
	if errs[api.OK] < 40 || errs[api.ErrFunds] < 10 || errs[api.ErrNone] < 5 || changes[0] < 3 || changes[1] < 20 {
		t.Errorf("too little happened: the errors %v, change %v", errs, changes)
	}
}

// TestP25_2Many: so many inputs that their number takes three bytes.
func TestP25_2Many(t *testing.T) {
	t.Parallel()
	w := rich(t, forms()[:2], slices.Repeat([]int64{20000}, 130)...)
	o := spend.Order{Pay: pay(open(), 1000), Rate: 20000, Way: 1}
	o.Pay[0].Value += w.spare(o)
	if x, err := w.expectBuild(t, "many inputs", o); err != api.OK || len(x.In) != 260 {
		t.Errorf("%d inputs, error %d", len(x.In), err)
	}
}

// TestP25_3Funds: funds are insufficient exactly if all sources together have less than is needed.
func TestP25_3Funds(t *testing.T) {
	t.Parallel()
	w := rich(t, forms()[:4], 3000, 50000)
	for _, rate := range []int64{1777, 40000} {
		o := spend.Order{Pay: pay(open(), 20000), Rate: rate, Change: 2}
		most := 20000 + w.spare(o)
		for way := range 4 {
			for more := int64(-2); more <= 2; more++ {
				o.Way, o.Pay = way, pay(open(), most+more)
				_, err := w.expectBuild(t, "all that there is", o)
				if short := more > 0; way != 2 && (err == api.ErrFunds) != short || err != api.OK && !short {
					t.Errorf("way %d, the rate %d: %d more than there is: error %d", way, rate, more, err)
				}
			}
		}
	}
	empty := walletOf(t, 1, forms()[0])
	for way, want := range []api.Errno{api.ErrFunds, api.ErrFunds, api.ErrNone, api.ErrFunds} {
		if _, err := empty.expectBuild(t, "nothing", spend.Order{Pay: pay(open(), 20000), Rate: 1000, Way: way}); err != want {
			t.Errorf("way %d: error %d", way, err)
		}
	}
}
