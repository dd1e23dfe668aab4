package ledger_test

import (
	"math"
	"slices"
	"testing"

	"strongbox/api"
	"strongbox/block"
	"strongbox/ledger"
	"strongbox/tx"
)

func TestP22_2Numbers(t *testing.T) {
	for i, state := range []int{ledger.Unknown, ledger.Inactive, ledger.Pooled, ledger.Confirmed, ledger.Conflicted, ledger.Abandoned} {
		if state != i {
			t.Errorf("the state %d has the number %d", i, state)
		}
	}
}

// TestP22_2Confirmed has the depths, and what a reorganization does to them.
func TestP22_2Confirmed(t *testing.T) {
	w := walletOf(t, 2, "wpkh")
	var list []api.Tx
	for range 5 {
		list = append(list, w.mine(t, w.Chain.Tip(), pay(w.script(0, 0), unit)).Txs[0])
	}
	w.expectState(t, "not recorded", ledger.Unknown, list...)
	w.scan(t, 0, 5)
	for i, x := range list {
		if got, depth := w.State(w.View, tx.Id(x)); got != ledger.Confirmed || depth != 5-i {
			t.Errorf("State of %d = %d, %d", i, got, depth)
		}
	}
	w.fork(t, 2)
	w.expectState(t, "still there", ledger.Confirmed, list[:3]...)
	// Each coinbase is said to spend the empty place, which another one on the chain spends as well.
	w.expectState(t, "disconnected", ledger.Conflicted, list[3:]...)
	if _, depth := w.State(w.View, tx.Id(list[2])); depth != 4 {
		t.Errorf("the depth %d", depth)
	}
}

// TestP22_2Way has the way of one transaction from state to state.
func TestP22_2Way(t *testing.T) {
	w, first := rich(t)
	x := w.signed(t, pay(w.script(0, 1), unit-10000), first, 0)
	w.wait(t, x)
	w.expectState(t, "not recorded, but in the pool", ledger.Unknown, x)
	w.Pool.Refresh(w.Chain)
	w.record(t, x)
	w.expectState(t, "recorded, in the pool", ledger.Pooled, x)
	other := w.signed(t, pay(open(), unit-20000), first, 0)
	fork := w.Chain.Tip()
	w.mine(t, fork, pay(open(), 1), other)
	w.expectState(t, "another one is on the chain, the pool doesn't know it yet", ledger.Conflicted, x)
	w.Pool.Refresh(w.Chain)
	w.expectState(t, "another one is on the chain", ledger.Conflicted, x)
	w.fork(t, 1)
	w.expectState(t, "the chain lost it", ledger.Inactive, x)
	w.abandon(t, tx.Id(x), api.OK)
	w.expectState(t, "abandoned", ledger.Abandoned, x)
	w.wait(t, x)
	w.expectState(t, "abandoned, but in the pool", ledger.Abandoned, x)
	fork = w.Chain.Tip()
	w.mine(t, fork, pay(open(), 1), x)
	w.expectState(t, "abandoned, but on the chain", ledger.Confirmed, x)
	w.mine(t, block.Id(w.mine(t, fork, pay(open(), 1)).Header), pay(open(), 1), other)
	w.expectState(t, "abandoned, another one is on the chain", ledger.Conflicted, x)
	w.fork(t, 1)
	w.expectState(t, "abandoned, the chain lost the other one", ledger.Abandoned, x)
}

// TestP22_2Depends: what depends on a conflicted transaction is conflicted.
func TestP22_2Depends(t *testing.T) {
	w, first := rich(t)
	a := spending(pay(w.script(0, 0), 400000, 400000), made(first, 4))
	b := spending(pay(w.script(0, 1), 1), made(a, 1))
	c := spending(pay(w.script(0, 1), 2), made(first, 2), made(b, 0))
	beyond := spending(pay(w.script(0, 1), 3), made(a, 2))
	last := spending(pay(w.script(0, 1), 4), made(a, math.MaxUint32))
	unknown := spending(pay(w.script(0, 1), 5), api.OutPoint{Hash: api.Hash{1}})
	// Those that depend on others may be recorded ahead of them.
	w.record(t, c, b, beyond, last, unknown)
	w.expectState(t, "without a", ledger.Inactive, b, c, beyond, last, unknown)
	fork := w.Chain.Tip()
	w.mine(t, fork, pay(open(), 1), spending(pay(open(), 1), made(first, 4)))
	w.expectState(t, "a is not recorded", ledger.Inactive, b, c)
	w.record(t, a)
	w.expectState(t, "a is conflicted", ledger.Conflicted, a, b, c)
	w.expectState(t, "a has no such output", ledger.Inactive, beyond, last, unknown)
	w.fork(t, 1)
	w.expectState(t, "the chain lost the other one", ledger.Inactive, a, b, c, beyond, last, unknown)
	w.mine(t, w.Chain.Tip(), pay(open(), 1), a)
	w.expectState(t, "a is confirmed", ledger.Inactive, b, c, beyond)
	w.expectState(t, "a is confirmed", ledger.Confirmed, a)
	w.mine(t, w.Chain.Tip(), pay(open(), 1), w.signed(t, pay(open(), 1), first, 2))
	w.expectState(t, "a is confirmed, and what c spends as well is spent", ledger.Conflicted, c)
	w.expectState(t, "b has nothing to do with it", ledger.Inactive, b)
	w.fork(t, 2)
	w.mine(t, w.Chain.Tip(), pay(open(), 1), a, w.signed(t, pay(open(), 1), a, 1))
	w.expectState(t, "what b spends is spent by another one", ledger.Conflicted, b, c)
	w.expectState(t, "a is confirmed", ledger.Confirmed, a)
}

// TestP22_2Parents: what depends on one that is confirmed doesn't depend on what that one spent.
func TestP22_2Parents(t *testing.T) {
	w, first := rich(t)
	a := spending(pay(w.script(0, 0), 400000), made(first, 4))
	b := w.signed(t, pay(w.script(0, 0), 300000), a, 0)
	c := w.signed(t, pay(w.script(0, 0), 200000), b, 0)
	w.record(t, a, b, c)
	w.expectState(t, "none is anywhere", ledger.Inactive, a, b, c)
	w.wait(t, a, b, c)
	w.expectState(t, "all wait", ledger.Pooled, a, b, c)
	w.mine(t, w.Chain.Tip(), pay(open(), 1), a, b)
	w.Pool.Refresh(w.Chain)
	w.expectState(t, "two are confirmed", ledger.Confirmed, a, b)
	w.expectState(t, "the last one waits", ledger.Pooled, c)
}

func TestP22_2AbandonErrors(t *testing.T) {
	w, first := rich(t)
	x := w.signed(t, pay(open(), unit-10000), first, 0)
	rival := w.signed(t, pay(open(), unit-20000), first, 0)
	for _, id := range []api.Hash{{}, {1}, tx.Id(x)} {
		w.abandon(t, id, api.ErrNone)
	}
	w.abandon(t, tx.Id(first), api.ErrState)
	w.wait(t, x)
	w.abandon(t, tx.Id(x), api.ErrNone)
	w.record(t, x)
	w.abandon(t, tx.Id(x), api.ErrState)
	w.mine(t, w.Chain.Tip(), pay(open(), 1), rival)
	w.Pool.Refresh(w.Chain)
	w.abandon(t, tx.Id(x), api.ErrState)
	w.fork(t, 1)
	w.abandon(t, tx.Id(x), api.OK)
	w.abandon(t, tx.Id(x), api.ErrState)
	w.record(t, x)
	w.expectState(t, "added once more", ledger.Abandoned, x)
}

// TestP22_2Abandon: with one, all inactive ones are abandoned that depend on it, and no others.
func TestP22_2Abandon(t *testing.T) {
	w, first := rich(t)
	a := spending(pay(open(), 400000, 400000), made(first, 4))
	left := spending(pay(open(), 300000), made(a, 0))
	right := spending(pay(open(), 300000), made(a, 1))
	both := spending(pay(open(), 500000), made(left, 0), made(right, 0))
	last := spending(pay(open(), 400000), made(both, 0))
	alone := spending(pay(open(), 1), made(first, 5))
	beyond := spending(pay(open(), 1), made(a, 2))
	list := []api.Tx{last, alone, both, right, beyond, left, a}
	w.record(t, list...)
	w.abandon(t, tx.Id(left), api.OK)
	w.expectState(t, "left and what depends on it", ledger.Abandoned, left, both, last)
	w.expectState(t, "the others", ledger.Inactive, a, right, alone, beyond)
	w.abandon(t, tx.Id(a), api.OK)
	w.expectState(t, "all of them", ledger.Abandoned, a, left, right, both, last)
	w.expectState(t, "the others", ledger.Inactive, alone, beyond)
}

// TestP22_2AbandonOthers: what depends on an abandoned one through another that is not inactive is abandoned, but not that other one.
func TestP22_2AbandonOthers(t *testing.T) {
	w, first := rich(t)
	a := spending(pay(open(), 400000), made(first, 4))
	b := spending(pay(open(), 300000), made(a, 0))
	c := spending(pay(open(), 200000), made(b, 0))
	spoiled := spending(pay(open(), 200000), made(a, 0), made(first, 5))
	after := spending(pay(open(), 100000), made(spoiled, 0))
	w.record(t, a, b, c, spoiled, after)
	w.wait(t, a, b)
	// Without a Refresh, b remains in the pool when a rival takes the place of a.
	tip := w.Chain.Tip()
	w.mine(t, tip, pay(open(), 1), a, spending(pay(open(), 1), made(first, 5)))
	w.Pool.Refresh(w.Chain)
	w.mine(t, block.Id(w.mine(t, tip, pay(open(), 1)).Header), pay(open(), 1), spending(pay(open(), 1), made(first, 5)))
	w.expectState(t, "a", ledger.Inactive, a, c)
	w.expectState(t, "b", ledger.Pooled, b)
	w.expectState(t, "spoiled", ledger.Conflicted, spoiled, after)
	w.abandon(t, tx.Id(a), api.OK)
	w.expectState(t, "a and c", ledger.Abandoned, a, c)
	w.expectState(t, "b", ledger.Pooled, b)
	w.expectState(t, "spoiled", ledger.Conflicted, spoiled, after)
	w.fork(t, 2)
	w.expectState(t, "what was conflicted was not abandoned", ledger.Inactive, spoiled, after)
}

// TestP22_2Ways: many ways lead from one transaction to another one it depends on.
func TestP22_2Ways(t *testing.T) {
	w, first := rich(t)
	list := []api.Tx{spending(pay(open(), 1, 2), made(first, 4))}
	for range 100 {
		up := list[len(list)-1]
		list = append(list, spending(pay(open(), 1, 2), made(up, 0), made(up, 1)))
	}
	for _, x := range slices.Backward(list) {
		w.Add(x)
	}
	state := func(i int) int {
		got, _ := w.State(w.View, tx.Id(list[i]))
		return got
	}
	if state(100) != ledger.Inactive {
		t.Errorf("State = %d", state(100))
	}
	w.mine(t, w.Chain.Tip(), pay(open(), 1), spending(pay(open(), 1), made(first, 4)))
	if state(0) != ledger.Conflicted || state(100) != ledger.Conflicted {
		t.Errorf("State = %d, %d", state(0), state(100))
	}
	w.fork(t, 1)
	if err := w.Abandon(w.View, tx.Id(list[10])); err != api.OK {
		t.Errorf("Abandon: error %d", err)
	}
	if state(9) != ledger.Inactive || state(10) != ledger.Abandoned || state(100) != ledger.Abandoned {
		t.Errorf("State = %d, %d, %d", state(9), state(10), state(100))
	}
}
