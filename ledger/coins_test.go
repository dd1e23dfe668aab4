package ledger_test

import (
	"slices"
	"testing"

	"strongbox/api"
	"strongbox/chain"
	"strongbox/coins"
	"strongbox/ledger"
	"strongbox/tx"
)

// values returns what coins are worth, in units.
func values(list []coins.Entry) []int64 {
	var sorted []int64
	for _, e := range list {
		sorted = append(sorted, e.Coin.Out.Value/unit)
	}
	slices.Sort(sorted)
	return sorted
}

// expectFree tells what of a rich wallet can be spent.
func (w *wallet) expectFree(t *testing.T, what string, want ...int64) {
	t.Helper()
	w.expect(t, what)
	if got := values(w.Spendable(w.View)); !slices.Equal(got, want) {
		t.Errorf("%s: Spendable = %d; want %d", what, got, want)
	}
}

// TestP22_3Coins: the coins of a wallet are those whose scripts the ring has, recorded or not.
func TestP22_3Coins(t *testing.T) {
	w, first := rich(t)
	if got := values(w.Coins(w.View)); !slices.Equal(got, []int64{1, 2, 3, 4}) {
		t.Errorf("Coins = %d", got)
	}
	list := w.Chain.Coins()
	for _, e := range w.Coins(w.View) {
		i := slices.IndexFunc(list, func(other coins.Entry) bool { return sameEntry(e, other) })
		if i < 0 {
			t.Fatalf("%v is no coin of the chain, or not in its order", e)
		}
		list = list[i+1:]
	}
	w.mine(t, w.Chain.Tip(), pay(w.script(0, 3), 7*unit), w.signed(t, pay(w.script(0, 2), 5*unit-unit), first, 3))
	if got := values(w.Coins(w.View)); !slices.Equal(got, []int64{1, 2, 3, 4, 7}) {
		t.Errorf("Coins = %d", got)
	}
	w.expectFree(t, "nothing of it is recorded", 1, 2, 3, 4)
	empty := ledger.New()
	if len(empty.Coins(w.View)) != 5 || len(empty.Spendable(w.View)) != 4 || empty.Balance(w.View) != (ledger.Balance{Ready: 10 * unit, Young: 7 * unit}) {
		t.Errorf("another ledger has other coins")
	}
	w.fork(t, 1)
	w.expectFree(t, "the chain lost it", 1, 2, 3, 4)
	none := walletOf(t, 2)
	none.Chain = w.Chain
	none.expectFree(t, "a ring without descriptors")
	if len(none.Coins(none.View)) != 0 || none.Balance(none.View) != (ledger.Balance{}) {
		t.Errorf("a ring without descriptors has coins")
	}
}

// TestP22_3Young: a coinbase can be spent ten blocks later.
func TestP22_3Young(t *testing.T) {
	w := walletOf(t, 1, "wpkh")
	first := w.mine(t, w.Chain.Tip(), slices.Concat(pay(w.script(0, 0), unit), pay(open(), 2*unit))).Txs[0]
	w.scan(t, 0, 1)
	spend := w.signed(t, pay(open(), 1), first, 0)
	for h := 1; h < 12; h++ {
		want := ledger.Balance{Young: unit}
		if h >= 10 {
			want = ledger.Balance{Ready: unit}
		}
		if got := w.Balance(w.View); got != want || len(w.Spendable(w.View)) != int(want.Ready/unit) || len(w.Coins(w.View)) != 1 {
			t.Errorf("at %d: Balance = %v; want %v", h, got, want)
		}
		if _, err := w.Chain.Fits(spend); (err == api.OK) != (want.Ready > 0) {
			t.Errorf("at %d: Fits: error %d", h, err)
		}
		w.expect(t, "growing")
		w.grow(t, 1)
	}
	w.mine(t, w.Chain.Tip(), pay(w.script(0, 0), 5*unit), spending(pay(w.script(0, 0), unit), made(first, 1)))
	if got := w.Balance(w.View); got != (ledger.Balance{Ready: 2 * unit, Young: 5 * unit}) || len(w.Spendable(w.View)) != 2 {
		t.Errorf("what no coinbase paid is young: %v", got)
	}
	w.fork(t, 3)
	w.expectFree(t, "lower down", 1)
	if got := w.Balance(w.View); got != (ledger.Balance{Ready: unit}) {
		t.Errorf("Balance = %v", got)
	}
	g := chain.New()
	low := ledger.View{Chain: g, Pool: w.Pool, Ring: w.Ring}
	if w.Balance(low) != (ledger.Balance{}) || len(w.Spendable(low)) != 0 || len(w.Coins(low)) != 0 {
		t.Errorf("an empty chain has coins")
	}
}

// TestP22_3Taken: what a transaction spends that may still be confirmed can't be spent once more.
func TestP22_3Taken(t *testing.T) {
	w, first := rich(t)
	waits := w.signed(t, pay(open(), 1), first, 0)
	w.wait(t, waits)
	w.expectFree(t, "one waits that isn't recorded", 2, 3, 4)
	w.record(t, waits)
	w.expectFree(t, "one waits", 2, 3, 4)
	inactive := spending(pay(open(), 1), made(first, 1), made(first, 3), made(first, 9))
	w.record(t, inactive)
	w.expectFree(t, "one is inactive", 3)
	w.abandon(t, tx.Id(inactive), api.OK)
	w.expectFree(t, "it is abandoned", 2, 3, 4)
	// The coins that a conflicted one doesn't share are free.
	clashing := spending(pay(open(), 1), made(first, 2), made(first, 4))
	w.record(t, clashing)
	w.expectFree(t, "another one is inactive", 2, 4)
	w.mine(t, w.Chain.Tip(), pay(open(), 1), spending(pay(open(), 1), made(first, 4)))
	w.expectFree(t, "it is conflicted", 2, 3, 4)
	w.fork(t, 1)
	w.expectFree(t, "it is inactive again", 2, 4)
	if got := w.Balance(w.View); got != (ledger.Balance{Ready: 10 * unit}) {
		t.Errorf("Balance = %v", got)
	}
}

// TestP22_3Pool: what an abandoned or conflicted one spends isn't free as long as it waits.
func TestP22_3Pool(t *testing.T) {
	w, first := rich(t)
	x := w.signed(t, pay(w.script(0, 1), 5*unit/10), first, 0)
	w.record(t, x)
	w.abandon(t, tx.Id(x), api.OK)
	w.expectFree(t, "abandoned", 1, 2, 3, 4)
	w.wait(t, x)
	w.expectFree(t, "abandoned, but it waits", 2, 3, 4)
	if got := w.Balance(w.View); got.Pending != 0 {
		t.Errorf("Balance = %v", got)
	}
	both := spending(pay(w.script(0, 1), unit), made(first, 4), made(first, 5))
	both.Out = append(both.Out, pay(open(), 1)...)
	w.record(t, both)
	w.wait(t, both)
	w.mine(t, w.Chain.Tip(), pay(open(), 1), spending(pay(open(), 1), made(first, 5)))
	w.expectState(t, "conflicted, but it waits", ledger.Conflicted, both)
	if got := w.Balance(w.View); got.Pending != 0 {
		t.Errorf("Balance = %v", got)
	}
}

// TestP22_3Lock: a locked coin can't be spent, but it is there.
func TestP22_3Lock(t *testing.T) {
	w, first := rich(t)
	w.lock(made(first, 1), true)
	w.lock(made(first, 4), true)
	w.lock(api.OutPoint{}, true)
	w.expectFree(t, "locked", 1, 3, 4)
	if got := w.Balance(w.View); got != (ledger.Balance{Ready: 10 * unit}) || len(w.Coins(w.View)) != 4 {
		t.Errorf("Balance = %v", got)
	}
	w.lock(made(first, 1), false)
	w.lock(made(first, 2), false)
	w.expectFree(t, "not locked any more", 1, 2, 3, 4)
}

// TestP22_3Pending: what waits counts as far as it is recorded, belongs to the wallet, and isn't spent by what waits.
func TestP22_3Pending(t *testing.T) {
	w, first := rich(t)
	expect := func(what string, want int64) {
		t.Helper()
		w.expect(t, what)
		if got := w.Balance(w.View); got != (ledger.Balance{Ready: 10 * unit, Pending: want}) {
			t.Errorf("%s: Balance = %v; want %d", what, got, want)
		}
	}
	outs := slices.Concat(pay(w.script(0, 0), 100000, 200000), pay(open(), 300000), pay(w.script(0, 1), 400000), pay(ownLater(w), 500000))
	a := spending(outs, made(first, 4))
	w.wait(t, a)
	expect("not recorded", 0)
	w.record(t, a)
	expect("recorded", 700000)
	w.record(t, spending(pay(w.script(0, 0), 1000000), made(first, 5)))
	expect("one that doesn't wait", 700000)
	b := w.signed(t, pay(w.script(0, 0), 50000), a, 1)
	w.wait(t, b)
	expect("an output is spent", 500000)
	w.record(t, b)
	expect("what spends it pays", 550000)
	w.Ring.Take(0)
	expect("the ring has more", 1050000)
	c := spending(pay(open(), 100), made(a, 2))
	w.wait(t, c)
	w.record(t, c)
	expect("what doesn't belong to the wallet", 1050000)
	w.record(t, spending(pay(open(), 100), made(a, 0)))
	expect("a recorded one that doesn't wait spends", 1050000)
	w.mine(t, w.Chain.Tip(), pay(open(), 1), a)
	w.Pool.Refresh(w.Chain)
	w.expect(t, "one is confirmed")
	if got := w.Balance(w.View); got != (ledger.Balance{Ready: 10*unit + 1200000, Pending: 50000}) {
		t.Errorf("Balance = %v", got)
	}
}

// TestP22_3Fits: whatever is spendable can be spent in the next block, by what the ring signs.
func TestP22_3Fits(t *testing.T) {
	w := walletOf(t, 3, "wpkh", "pkh")
	outs := slices.Concat(pay(w.script(0, 0), unit, unit), pay(w.script(1, 2), unit))
	first := w.mine(t, w.Chain.Tip(), outs).Txs[0]
	for range 11 {
		w.mine(t, w.Chain.Tip(), pay(w.script(0, 1), unit))
	}
	w.scan(t, 0, 12)
	w.lock(made(first, 1), true)
	list := w.Spendable(w.View)
	if len(list) != 4 {
		t.Errorf("%d are spendable", len(list))
	}
	for _, e := range list {
		from, ok := w.Get(e.Place.Hash)
		if !ok {
			t.Fatalf("what made a coin isn't recorded")
		}
		x := w.signed(t, pay(open(), 1), from, e.Place.Index)
		if _, err := w.Chain.Fits(x); err != api.OK {
			t.Errorf("%v can't be spent: error %d", e.Place, err)
		}
	}
}
