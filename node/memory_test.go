package node_test

import (
	"fmt"
	"reflect"
	"slices"
	"testing"

	"strongbox/api"
	"strongbox/block"
	"strongbox/ledger"
	"strongbox/node"
	"strongbox/tx"
)

// area is the memory of a list, with its spare capacity.
type area struct {
	from, to uintptr
}

// areas returns those of all lists in something.
func areas(v reflect.Value) []area {
	var all []area
	switch v.Kind() {
	case reflect.Slice:
		if size := uintptr(v.Cap()) * v.Type().Elem().Size(); size > 0 {
			all = append(all, area{v.Pointer(), v.Pointer() + size})
		}
		for i := range v.Len() {
			all = append(all, areas(v.Index(i))...)
		}
	case reflect.Struct:
		for i := range v.NumField() {
			all = append(all, areas(v.Field(i))...)
		}
	}
	return all
}

// expectApart: no two lists in all of this share memory.
func expectApart(t *testing.T, what string, list ...any) {
	t.Helper()
	var all []area
	for _, x := range list {
		all = append(all, areas(reflect.ValueOf(x))...)
	}
	slices.SortFunc(all, func(a, b area) int {
		if a.from < b.from {
			return -1
		}
		return 1
	})
	for i := range all[:len(all)-1] {
		if all[i].to > all[i+1].from {
			t.Errorf("%s: two lists share memory", what)
			return
		}
	}
}

// roomy returns an operation with spare capacity behind each list, in which other things are.
func roomy(o node.Op) node.Op {
	spare := func(b []byte) []byte { return slices.Concat(b, []byte{0xab, 0xab})[:len(b)] }
	o.Data = spare(o.Data)
	n := len(o.Order.Pay)
	list := slices.Concat(o.Order.Pay, pay([]byte{9}, 1, 2))
	for i := range list {
		list[i].Script = spare(list[i].Script)
	}
	o.Order.Pay = list[:n]
	return o
}

// whole returns all of an operation as text, with what is in spare capacity.
func whole(o node.Op) string {
	list := slices.Clone(o.Order.Pay[:cap(o.Order.Pay)])
	for i, p := range list {
		list[i].Script = p.Script[:cap(p.Script)]
	}
	return fmt.Sprint(o, o.Data[:cap(o.Data)], list)
}

// overwrite clears all bytes in something.
func overwrite(v reflect.Value) {
	switch v.Kind() {
	case reflect.Slice:
		v = v.Slice(0, v.Cap())
		for i := range v.Len() {
			overwrite(v.Index(i))
		}
	case reflect.Struct:
		for i := range v.NumField() {
			overwrite(v.Field(i))
		}
	case reflect.Uint8:
		v.SetUint(0xee)
	case reflect.Int64:
		v.SetInt(-9)
	}
}

// givenBy returns all that a node gives out.
func givenBy(n *node.Node) []any {
	return []any{n.Coins(), n.Spendable(), n.Own(), n.Waits(), n.Scripts(), n.Block()}
}

// TestP26_7Given: what a node gives out shares no memory with what it has, or gives out next.
func TestP26_7Given(t *testing.T) {
	w := worldOf(t, 2, texts()...)
	w.grow(t, 12)
	sent := w.do(t, node.Op{Kind: node.Send, Order: order(api.Coin)}, api.OK)
	bumped := w.do(t, node.Op{Kind: node.Bump, Id: sent.Id, Rate: 5000}, api.OK)
	taken := w.do(t, node.Op{Kind: node.Take, N: 3}, api.OK)
	want := all(w)
	next := fmt.Sprint(w.Block())
	one, two := givenBy(w.Node), givenBy(w.Node)
	expectApart(t, "all", slices.Concat([]any{sent, bumped, taken}, one, two)...)
	for _, x := range slices.Concat([]any{sent.Tx.In, sent.Tx.Out, bumped.Tx.In, bumped.Tx.Out, taken.Script}, one) {
		if b, ok := x.(api.Block); ok {
			x = b.Txs
		}
		overwrite(reflect.ValueOf(x))
	}
	if all(w) != want || fmt.Sprint(w.Block()) != next || fmt.Sprint(two) != fmt.Sprint(givenBy(w.Node)) {
		t.Errorf("what is written to a result is seen in the node")
	}
	x := w.Tree()
	x.Ban(w.Tip())
	x.Add(w.child(w.Tip(), pay(open(), 1)).Header)
	w.expect(t, "the tree that was given out changed")
	w.open(t)
}

// TestP26_7Passed: an operation isn't changed, and nothing of it is retained.
func TestP26_7Passed(t *testing.T) {
	w := worldOf(t, 2, texts()...)
	first := w.child(w.Tip(), pay(open(), api.Coin, api.Coin))
	w.receive(t, first, api.OK)
	w.grow(t, 12)
	var sent, incoming api.Hash
	for _, o := range []node.Op{
		{Kind: node.Block, Data: block.Encode(w.Block())},
		{Kind: node.Tx, Data: tx.Encode(spending(pay(w.Scripts()[0], api.Coin-10000), made(first.Txs[0], 0)), true)},
		{Kind: node.Send, Order: order(api.Coin)},
		{Kind: node.Label, Data: slices.Clone(w.Scripts()[1]), Text: "rent"},
		{Kind: node.Label, Data: []byte{1, 2, 3}, Text: string(make([]byte, 101))},
	} {
		o = roomy(o)
		before := whole(o)
		a := w.try(t, o)
		if whole(o) != before {
			t.Errorf("the kind %d: the operation was changed", o.Kind)
		}
		expectApart(t, fmt.Sprint("the kind ", o.Kind), o, a, []byte{0})
		want := all(w)
		overwrite(reflect.ValueOf(o.Data))
		overwrite(reflect.ValueOf(o.Order.Pay))
		if all(w) != want {
			t.Errorf("the kind %d: what was passed is retained", o.Kind)
		}
		switch o.Kind {
		case node.Tx:
			incoming = a.Id
		case node.Send:
			sent = a.Id
		}
	}
	for _, id := range []api.Hash{sent, incoming} {
		if state, _ := w.State(id); state != ledger.Pooled {
			t.Errorf("the state %d", state)
		}
	}
	label := w.Scripts()[1]
	if w.Labeled(label) != "rent" {
		t.Errorf("the label %q", w.Labeled(label))
	}
}
