package ledger_test

import (
	"math"
	"slices"
	"testing"

	"strongbox/api"
	"strongbox/block"
	"strongbox/chain"
	"strongbox/ledger"
	"strongbox/tx"
)

// odd returns transactions that no block has.
func odd() []api.Tx {
	return []api.Tx{
		{},
		{Version: -1, Lock: math.MaxUint32},
		{In: []api.TxIn{{}}},
		{Out: []api.TxOut{{Value: math.MinInt64}}},
		{In: []api.TxIn{{Prev: api.OutPoint{Index: math.MaxUint32}}, {Prev: api.OutPoint{Index: math.MaxUint32}}}, Out: []api.TxOut{{Value: math.MaxInt64}, {Value: math.MaxInt64}}},
	}
}

func TestP22_1Add(t *testing.T) {
	w := walletOf(t, 2, "wpkh")
	w.expect(t, "New")
	list := append(odd(), spending(pay(open(), 7), api.OutPoint{Index: 5}), spending(pay(w.script(0, 0), 7), api.OutPoint{Index: 6}))
	for i, x := range list {
		if got, ok := w.Get(tx.Id(x)); ok || !tx.Same(got, api.Tx{}) {
			t.Errorf("Get of %d ahead of Add = %v, %t", i, got, ok)
		}
		w.record(t, x)
		w.record(t, x)
		if got, ok := w.Get(tx.Id(x)); !ok || !tx.Same(got, x) {
			t.Errorf("Get of %d = %v, %t; want %v", i, got, ok, x)
		}
		w.expect(t, "Add")
	}
	if got := w.List(); len(got) != len(list) {
		t.Errorf("%d transactions", len(got))
	}
}

// TestP22_1Witness: what has the Id of a recorded transaction is recorded already, and doesn't replace it.
func TestP22_1Witness(t *testing.T) {
	l := ledger.New()
	x := spending(pay(open(), 7), api.OutPoint{Index: 5})
	y := tx.Clone(x)
	y.In[0].Witness = [][]byte{{1}}
	if !l.Add(y) || l.Add(x) || l.Add(y) {
		t.Errorf("Add")
	}
	if got, _ := l.Get(tx.Id(x)); !tx.Same(got, y) || !tx.Same(l.List()[0], y) || len(l.List()) != 1 {
		t.Errorf("Get = %v; want %v", got, y)
	}
}

func TestP22_1Mine(t *testing.T) {
	w := walletOf(t, 2, "wpkh")
	own, far := w.script(0, 1), api.OutPoint{Hash: api.Hash{7}}
	other := ownLater(w)
	base := spending(slices.Concat(pay(open(), 7), pay(own, 8), pay(other, 9)), far)
	absent := spending(pay(own, 1), far)
	w.record(t, base)
	for i, c := range []struct {
		t    api.Tx
		want bool
	}{
		{api.Tx{}, false},
		{base, true},
		{spending(pay(open(), 7), far), false},
		{spending(pay(nil, 7), far), false},
		{spending(pay(own[:21], 7), far), false},
		{spending(append(pay(open(), 1, 2), pay(own, -1)...)), true},
		{spending(pay(other, 7), far), false},
		{spending(pay(open(), 7), made(base, 1)), true},
		{spending(nil, far, made(base, 0), made(base, 1)), true},
		{spending(pay(open(), 7), made(base, 0)), false},
		{spending(pay(open(), 7), made(base, 2)), false},
		{spending(pay(open(), 7), made(base, 3)), false},
		{spending(pay(open(), 7), made(base, math.MaxUint32)), false},
		{spending(pay(open(), 7), made(absent, 0)), false},
	} {
		if got := w.Mine(w.View, c.t); got != c.want || w.plain.mine(w.Ring, c.t) != c.want {
			t.Errorf("Mine of %d = %t; want %t", i, got, c.want)
		}
	}
	if w.Ring.Next(0) != 0 || len(w.List()) != 1 {
		t.Errorf("Mine changed something")
	}
	w.Ring.Take(0)
	if !w.Mine(w.View, spending(pay(other, 7))) || !w.Mine(w.View, spending(nil, made(base, 2))) {
		t.Errorf("what the ring has by now isn't Mine")
	}
}

// ownLater returns the first script beyond what the ring has.
func ownLater(w *wallet) []byte {
	r := w.Ring.Clone()
	r.Take(0)
	return r.Scripts()[r.End(0)-1]
}

// ahead returns the scripts of the first indices of the only descriptor, whether the ring has them or not.
func ahead(w *wallet, n int) [][]byte {
	r := w.Ring.Clone()
	for r.End(0) < n {
		r.Take(0)
	}
	return r.Scripts()
}

// TestP22_1Scan: all that pays to the wallet, or spends what does, is recorded in order.
func TestP22_1Scan(t *testing.T) {
	w := walletOf(t, 2, "wpkh")
	first := w.mine(t, w.Chain.Tip(), slices.Concat(pay(w.script(0, 0), unit), pay(open(), unit, unit))).Txs[0]
	w.grow(t, 9)
	toOwn := spending(pay(w.script(0, 0), 5000), made(first, 1))
	toOther := spending(pay(open(), 5000), made(first, 2))
	fromOwn := w.signed(t, pay(open(), 6000), first, 0)
	last := spending(pay(open(), 5000), made(fromOwn, 0))
	b := w.mine(t, w.Chain.Tip(), pay(open(), 1), toOther, fromOwn, last, toOwn)
	c := w.mine(t, w.Chain.Tip(), pay(w.script(0, 1), 1))
	w.scan(t, 0, 4)
	want := []api.Tx{first, fromOwn, toOwn, c.Txs[0]}
	if !slices.EqualFunc(w.List(), want, tx.Same) || w.Ring.Next(0) != 2 || w.Ring.End(0) != 4 {
		t.Errorf("%d are recorded; Next %d", len(w.List()), w.Ring.Next(0))
	}
	if n, ok := w.Chain.Where(tx.Id(b.Txs[4])); !ok || n != 11 {
		t.Errorf("toOwn is at %d", n)
	}
	w.scan(t, 0, 0)
}

func TestP22_1Heights(t *testing.T) {
	base := walletOf(t, 1, "wpkh")
	for range 5 {
		base.mine(t, base.Chain.Tip(), pay(base.script(0, 0), 1))
	}
	for from, want := range map[int]int{math.MinInt: 5, -1: 5, 0: 5, 1: 5, 2: 4, 5: 1, 6: 0, 7: 0, 1000: 0, math.MaxInt: 0} {
		w := &wallet{base.View, ledger.New(), &plainLedger{}, 0}
		w.Ring = base.Ring.Clone()
		w.scan(t, from, want)
		if got := w.Ring.Next(0); got != min(want, 1) {
			t.Errorf("Scan from %d: Next %d", from, got)
		}
		for i, x := range w.List() {
			if at, _ := w.Chain.Where(tx.Id(x)); at != 6-want+i {
				t.Errorf("Scan from %d: the transaction %d is at %d", from, i, at)
			}
		}
	}
}

// TestP22_1First: the transaction of the first block is not the wallet's, but it counts.
func TestP22_1First(t *testing.T) {
	g := chain.Genesis().Txs[0]
	w := walletOf(t, 1, "wpkh")
	w.scan(t, 0, 0)
	w.expectState(t, "the first transaction", ledger.Unknown, g)
	w.record(t, g)
	w.grow(t, 2)
	w.expectState(t, "the first transaction, recorded", ledger.Confirmed, g)
	if _, depth := w.State(w.View, tx.Id(g)); depth != 3 {
		t.Errorf("the depth %d", depth)
	}
	w.scan(t, 0, 0)
}

// TestP22_1Again: what pays to a script that the ring has only because of a later block is found as well.
func TestP22_1Again(t *testing.T) {
	w := walletOf(t, 2, "wpkh")
	scripts := ahead(w, 8)
	var list []api.Tx
	for _, i := range []int{6, 5, 3, 4, 2, 1} {
		list = append(list, w.mine(t, w.Chain.Tip(), pay(scripts[i], unit)).Txs[0])
	}
	w.scan(t, 0, 6)
	// The first pass sees 1, so that the ring has 2 and 3; the second one sees 3, 4 and 2 in this order, so that it has 5 and 6.
	for i, j := range []int{5, 2, 3, 4, 0, 1} {
		if !tx.Same(w.List()[i], list[j]) {
			t.Errorf("%d is not the transaction %d", i, j)
		}
	}
	if w.Ring.Next(0) != 7 || w.Ring.End(0) != 9 {
		t.Errorf("Next %d, End %d", w.Ring.Next(0), w.Ring.End(0))
	}
}

// TestP22_1Within: the outputs of one transaction are seen in their order; what is below the height is not seen.
func TestP22_1Within(t *testing.T) {
	w := walletOf(t, 1, "wpkh")
	scripts := ahead(w, 4)
	// The first pass sees 0, so that the ring has 1; the second one 1 and 2, the third one nothing more.
	outs := slices.Concat(pay(scripts[1], unit), pay(scripts[0], unit), pay(scripts[2], unit))
	first := w.mine(t, w.Chain.Tip(), pay(scripts[3], unit)).Txs[0]
	second := w.mine(t, w.Chain.Tip(), outs).Txs[0]
	w.scan(t, 2, 1)
	if w.Ring.Next(0) != 3 || w.Ring.End(0) != 4 || len(w.Coins(w.View)) != 4 {
		t.Errorf("Next %d, End %d, %d coins", w.Ring.Next(0), w.Ring.End(0), len(w.Coins(w.View)))
	}
	w.expectState(t, "the second one", ledger.Confirmed, second)
	w.expectState(t, "the first one", ledger.Unknown, first)
	w.scan(t, 1, 1)
	w.expectState(t, "the first one", ledger.Confirmed, first)
	if w.Ring.Next(0) != 4 {
		t.Errorf("Next %d", w.Ring.Next(0))
	}
}

// TestP22_1Chain: what is scanned is the best chain; the ring, the pool and the chain are otherwise as they were.
func TestP22_1Chain(t *testing.T) {
	w := walletOf(t, 2, "wpkh", "pkh")
	own, beside := w.script(0, 0), w.script(1, 1)
	w.mine(t, w.Chain.Tip(), pay(own, 1))
	w.mine(t, w.Chain.Tip(), pay(own, 2))
	g, _ := w.Chain.At(0)
	w.mine(t, block.Id(g.Header), pay(beside, 3))
	tip, waits := w.Chain.Tip(), w.Pool.Clone()
	w.scan(t, 0, 2)
	if w.Ring.Next(1) != 0 || w.Chain.Tip() != tip || !w.Pool.Same(waits) {
		t.Errorf("Scan looked beside the best chain, or changed something")
	}
}

// TestP22_4Again: after a Scan there is nothing more to be recorded, from whatever height on.
func TestP22_4Again(t *testing.T) {
	w := walletOf(t, 2, "wpkh")
	scripts := ahead(w, 12)
	for i := range scripts {
		w.mine(t, w.Chain.Tip(), pay(scripts[i*5%12], unit))
	}
	w.scan(t, 0, 12)
	was, ring := w.Ledger.Clone(), w.Ring.Clone()
	for _, from := range []int{0, 0, 3, -1, 12, 13, 0} {
		w.scan(t, from, 0)
	}
	if !w.Same(was) || !w.Ring.Same(ring) {
		t.Errorf("a repeated Scan changed something")
	}
	w.fork(t, 2)
	w.scan(t, 0, 0)
}
