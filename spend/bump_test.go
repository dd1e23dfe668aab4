package spend_test

import (
	"math"
	"math/rand"
	"slices"
	"testing"

	"strongbox/amount"
	"strongbox/api"
	"strongbox/ledger"
	"strongbox/spend"
	"strongbox/tx"
)

// send builds a payment, which is recorded and waits.
func (w *wallet) send(t *testing.T, o spend.Order) api.Tx {
	t.Helper()
	x, err := w.expectBuild(t, "a payment", o)
	if err != api.OK {
		t.Fatalf("a payment: error %d", err)
	}
	if err := w.Pool.Add(w.Chain, x); err != api.OK {
		t.Fatalf("a payment isn't accepted: error %d", err)
	}
	w.Add(x)
	return x
}

// feeOf returns what a transaction leaves of coins on the chain.
func (w *wallet) feeOf(x api.Tx) int64 {
	fee := -total(x.Out)
	for _, in := range x.In {
		c, _ := w.Chain.Coin(in.Prev)
		fee += c.Out.Value
	}
	return fee
}

// expectReplaced: what was made again is accepted in place of what it replaces, and records as well.
func (w *wallet) expectReplaced(t *testing.T, what string, old, x api.Tx) {
	t.Helper()
	before := w.Pool.List()
	if err := w.Pool.Add(w.Chain, x); err != api.OK {
		t.Fatalf("%s: the pool doesn't accept what was made again: error %d", what, err)
	}
	_, there := w.Pool.Get(tx.Id(old))
	_, ok := w.Pool.Get(tx.Id(x))
	if there || !ok || len(w.Pool.List()) != len(before) {
		t.Errorf("%s: the pool has %d, and had %d", what, len(w.Pool.List()), len(before))
	}
	w.Add(x)
}

// TestP25_4Example: a payment is made again, with coins of each form.
func TestP25_4Example(t *testing.T) {
	t.Parallel()
	for n, form := range forms() {
		w := rich(t, []string{form}, api.Coin, api.Coin)
		old := w.send(t, spend.Order{Pay: pay(open(), api.Coin, api.Coin/2), Rate: 1000})
		for _, rate := range []int64{2000, 3001, 100000} {
			x := w.expectBump(t, form[:6], tx.Id(old), rate, api.OK)
			want, _ := amount.Fee(rate, tx.Virtual(x))
			if w.feeOf(x) != want || len(x.Out) != 3 || tx.Virtual(x) != tx.Virtual(old) {
				t.Errorf("form %d, the rate %d: the fee is %d, not %d", n, rate, w.feeOf(x), want)
			}
			w.expectReplaced(t, form[:6], old, x)
			old = x
		}
		w.mine(t, pay(open(), 1), old)
		if state, _ := w.State(w.View, tx.Id(old)); state != ledger.Confirmed {
			t.Errorf("form %d: the state %d", n, state)
		}
	}
}

// TestP25_4Least: the fee increases by that for the rate 1000 at least.
func TestP25_4Least(t *testing.T) {
	t.Parallel()
	w := rich(t, forms()[:2], api.Coin, api.Coin)
	for _, script := range [][]byte{open(), make([]byte, 5000)} {
		u := w.clone()
		old := u.send(t, spend.Order{Pay: pay(script, 3*api.Coin/2), Rate: 5000})
		more, _ := amount.Fee(1000, tx.Virtual(old))
		for rate := int64(1000); rate <= 7000; rate += 200 {
			x := u.expectBump(t, "a rate", tx.Id(old), rate, api.OK)
			want, _ := amount.Fee(rate, tx.Virtual(old))
			want = max(want, u.feeOf(old)+more)
			if u.feeOf(x) != want {
				t.Errorf("the rate %d: the fee is %d, not %d", rate, u.feeOf(x), want)
			}
			u.clone().expectReplaced(t, "a rate", old, x)
		}
	}
}

// TestP25_4Same: nothing else is another one.
func TestP25_4Same(t *testing.T) {
	w := rich(t, forms()[:3], api.Coin)
	x := api.Tx{Version: -7, Lock: 3, Out: slices.Concat(pay(open(), 500), pay(w.script(1, 1), 1000), pay(open(), 0), pay(w.script(2, 0), 2*api.Coin))}
	for i, e := range w.Spendable(w.View) {
		x.In = append(x.In, api.TxIn{Prev: e.Place, Seq: uint32(i), Script: []byte{9}, Witness: [][]byte{{1}}})
	}
	w.Add(x)
	y := w.expectBump(t, "what wasn't signed", tx.Id(x), 1000, api.OK)
	z := tx.Clone(y)
	for i := range z.In {
		z.In[i].Script, z.In[i].Witness = x.In[i].Script, x.In[i].Witness
	}
	z.Out[3].Value = x.Out[3].Value
	if !tx.Same(x, z) || y.Out[3].Value >= x.Out[3].Value {
		t.Errorf("Bump = %v; was %v", y, x)
	}
	if err := w.Pool.Add(w.Chain, y); err != api.OK {
		t.Errorf("the pool doesn't accept it: error %d", err)
	}
}

// TestP25_4Dust: the last output may not become dust.
func TestP25_4Dust(t *testing.T) {
	for n, form := range forms() {
		w := rich(t, []string{form}, api.Coin)
		x := w.send(t, spend.Order{Pay: pay(open(), 10000), Rate: 1000})
		least := plainDust(x.Out[1])
		// Of a virtual size of at most 1000 bytes each fee has a rate.
		for rest := least - 2; rest <= least+2; rest++ {
			rate, _ := amount.Rate(api.Coin-10000-rest, tx.Virtual(x))
			fee, _ := amount.Fee(rate, tx.Virtual(x))
			want := api.OK
			if rest < least {
				want = api.ErrFunds
			}
			y := w.expectBump(t, "all that can be", tx.Id(x), rate, want)
			if fee != api.Coin-10000-rest || want == api.OK && y.Out[1].Value != rest {
				t.Errorf("form %d: what remains is not %d: %v", n, rest, y.Out)
			}
		}
	}
}

// TestP25_4LittleLeft: what the least increase leaves may be dust, too.
func TestP25_4LittleLeft(t *testing.T) {
	w := rich(t, forms()[:1], api.Coin)
	x := w.send(t, spend.Order{Pay: pay(open(), 10000), Rate: 1000})
	least := plainDust(x.Out[1])
	more, _ := amount.Fee(1000, tx.Virtual(x))
	for rest := least - 2; rest <= least+2; rest++ {
		y := tx.Clone(x)
		y.Out[0].Value += y.Out[1].Value - more - rest
		y.Out[1].Value = rest + more
		w.Add(y)
		want := api.OK
		if rest < least {
			want = api.ErrFunds
		}
		if z := w.expectBump(t, "little", tx.Id(y), 1000, want); want == api.OK && z.Out[1].Value != rest {
			t.Errorf("what remains is not %d: %v", rest, z.Out)
		}
	}
}

// TestP25_4Order: the first error that applies.
func TestP25_4Order(t *testing.T) {
	w := rich(t, forms()[:1], 10*api.Coin)
	free := w.mine(t, pay(open(), api.Coin))
	w.grow(t)
	coin := w.Spendable(w.View)[0].Place
	own := w.script(0, 1)
	outs := [][]api.TxOut{pay(own, 1, api.Coin), slices.Concat(pay(own, 5), pay(open(), api.Coin)), pay(own, api.Coin), pay(open(), api.Coin), nil, pay(own, 1, 20*api.Coin)}
	rates := []int64{1000, 999, 0, math.MinInt64, api.MaxMoney + 1, math.MaxInt64, 1 << 45, 1 << 33, 1 << 32}
	for bad := range 4 {
		for i, out := range outs {
			x := api.Tx{In: []api.TxIn{{Prev: coin}}, Out: out}
			if bad&1 != 0 {
				x.In = slices.Insert(x.In, i%2, api.TxIn{Prev: api.OutPoint{Hash: tx.Id(free)}})
			}
			if bad&2 != 0 {
				x.In = append(x.In, api.TxIn{Prev: api.OutPoint{Hash: api.Hash{7}}})
			}
			w.expectBump(t, "not recorded", tx.Id(x), 1000, api.ErrNone)
			w.Add(x)
			for _, rate := range rates {
				want := api.OK
				switch _, err := amount.Fee(rate, 100); {
				case bad&2 != 0:
					want = api.ErrSpent
				case 0 < i && i < 5:
					want = api.ErrFunds
				case rate < 1000 || err != api.OK:
					want = api.ErrFee
				case bad&1 != 0:
					want = api.ErrLocked
				case rate >= 1<<33:
					want = api.ErrFunds
				}
				w.expectBump(t, "a wrong one", tx.Id(x), rate, want)
			}
			w.Abandon(w.View, tx.Id(x))
			w.expectBump(t, "abandoned", tx.Id(x), 0, api.ErrState)
		}
	}
	w.expectBump(t, "none", api.Hash{}, 0, api.ErrNone)
}

// TestP25_4State: what isn't waiting or inactive is not made again.
func TestP25_4State(t *testing.T) {
	w := rich(t, forms()[:1], api.Coin, 2*api.Coin, 3*api.Coin)
	x := w.send(t, spend.Order{Pay: pay(open(), 5*api.Coin/2), Rate: 1000, Way: 1})
	y := w.expectBump(t, "waiting", tx.Id(x), 4000, api.OK)
	w.expectReplaced(t, "waiting", x, y)
	w.expectBump(t, "replaced", tx.Id(x), 9000, api.OK)
	behind := api.Tx{In: []api.TxIn{{Prev: api.OutPoint{Hash: tx.Id(y), Index: 1}}}, Out: pay(w.script(0, 1), 1000, 10000)}
	w.Add(behind)
	w.expectBump(t, "what spends a waiting output", tx.Id(behind), 1000, api.ErrSpent)
	w.mine(t, pay(open(), 1), y)
	w.expectBump(t, "confirmed", tx.Id(y), 9000, api.ErrState)
	w.expectBump(t, "conflicted", tx.Id(x), 9000, api.ErrState)
	w.expectBump(t, "what spends the chain's output", tx.Id(behind), 1000, api.OK)
	w.Abandon(w.View, tx.Id(behind))
	w.expectBump(t, "abandoned", tx.Id(behind), 1000, api.ErrState)
	w.expectBump(t, "a coinbase", w.Spendable(w.View)[0].Place.Hash, 9000, api.ErrState)
	empty := api.Tx{Out: pay(w.script(0, 0), 1, 10000)}
	w.Add(empty)
	w.expectBump(t, "one that spends nothing", tx.Id(empty), 9000, api.ErrFunds)
	w.Add(api.Tx{})
	w.expectBump(t, "nothing", tx.Id(api.Tx{}), 9000, api.ErrFunds)
}

// TestP25_4Unsigned: the size counts with what could be signed, also where that isn't enough.
func TestP25_4Unsigned(t *testing.T) {
	w := rich(t, forms()[:1], 10*api.Coin)
	free := w.mine(t, pay(open(), api.Coin))
	x := api.Tx{In: []api.TxIn{{Prev: w.Spendable(w.View)[0].Place}, {Prev: api.OutPoint{Hash: tx.Id(free)}}}, Out: pay(w.script(0, 0), 1, 1)}
	w.Add(x)
	// The greatest rate with a fee for the signed size has one for the size without signatures, too, but not the other way round.
	for _, size := range []int{138, 165, 166, 167, 168, 169, 190, 191, 192, 193, 194, 200} {
		rate, _ := amount.Rate(api.MaxMoney, size)
		_, want := plainBump(w, tx.Id(x), rate)
		w.expectBump(t, "a great rate", tx.Id(x), rate, want)
	}
}

// TestP25_4Values: a recorded transaction may have any values.
func TestP25_4Values(t *testing.T) {
	t.Parallel()
	w := rich(t, forms()[:1], 10*api.Coin)
	place := w.Spendable(w.View)[0].Place
	wild := []int64{math.MinInt64, math.MinInt64 + 1, -1 << 32, -1, 0, 1, 1 << 31, 1<<32 - 1, 1 << 32, api.Coin, api.MaxMoney, math.MaxInt64 - 1, math.MaxInt64}
	r := rand.New(rand.NewSource(4))
	fine := 0
	for range 400 {
		var list []int64
		for range 2 + r.Intn(4) {
			list = append(list, wild[r.Intn(len(wild))]+r.Int63n(3)*r.Int63n(2))
		}
		x := api.Tx{In: []api.TxIn{{Prev: place}}, Out: pay(w.script(0, 0), list...)}
		w.Add(x)
		_, want := plainBump(w, tx.Id(x), 1000)
		if y := w.expectBump(t, "wild values", tx.Id(x), 1000, want); want == api.OK && y.Out[len(list)-1].Value >= list[len(list)-1] {
			t.Errorf("%d became %d", list, y.Out[len(list)-1].Value)
		}
		if want == api.OK {
			fine++
		}
	}
	if fine < 20 {
		t.Errorf("only %d could be made again", fine)
	}
}

// TestP25_4Random: payments are made again and again, as the document says it, and replace one another.
func TestP25_4Random(t *testing.T) {
	t.Parallel()
	r := rand.New(rand.NewSource(254))
	replaced := 0
	for range 8 {
		w := rich(t, forms()[:3+r.Intn(5)], 50000, 100000+r.Int63n(1000000))
		for range 3 {
			o := randomOrder(r, w, 300000)
			x, err := w.expectBuild(t, "a random order", o)
			if err != api.OK {
				continue
			}
			w.Pool.Add(w.Chain, x)
			w.Add(x)
			for range 3 {
				rate := 500 + r.Int63n(1<<uint(r.Intn(16)))
				_, want := plainBump(w, tx.Id(x), rate)
				y := w.expectBump(t, "a random rate", tx.Id(x), rate, want)
				if want == api.OK {
					w.expectReplaced(t, "a random rate", x, y)
					replaced++
					x = y
				}
			}
		}
	}
	if replaced < 10 {
		t.Errorf("only %d were replaced", replaced)
	}
}
