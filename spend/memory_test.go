package spend_test

import (
	"fmt"
	"reflect"
	"slices"
	"testing"

	"strongbox/api"
	"strongbox/spend"
	"strongbox/tx"
)

// area is the memory of a list, with its spare capacity.
type area struct {
	from, to uintptr
}

// areas returns those of all lists in something.
func areas(v reflect.Value) []area {
	var all []area
	switch v.Kind() {
	case reflect.Slice:
		if size := uintptr(v.Cap()) * v.Type().Elem().Size(); size > 0 {
			all = append(all, area{v.Pointer(), v.Pointer() + size})
		}
		for i := range v.Len() {
			all = append(all, areas(v.Index(i))...)
		}
	case reflect.Struct:
		for i := range v.NumField() {
			all = append(all, areas(v.Field(i))...)
		}
	}
	return all
}

// expectApart: no two lists in all of this share memory.
func expectApart(t *testing.T, what string, list ...any) {
	t.Helper()
	var all []area
	for _, x := range list {
		all = append(all, areas(reflect.ValueOf(x))...)
	}
	slices.SortFunc(all, func(a, b area) int {
		if a.from < b.from {
			return -1
		}
		return 1
	})
	for i := range all[:len(all)-1] {
		if all[i].to > all[i+1].from {
			t.Errorf("%s: two lists share memory", what)
			return
		}
	}
}

// roomy returns an order with spare capacity behind each list, in which other things are.
func roomy(o spend.Order) spend.Order {
	list := slices.Concat(o.Pay, pay([]byte{9, 9}, 1, 2))
	for i := range list {
		n := len(list[i].Script)
		list[i].Script = slices.Concat(list[i].Script, []byte{0xab, 0xab})[:n]
	}
	o.Pay = list[:len(o.Pay)]
	return o
}

// whole returns all of an order as text, with what is in spare capacity.
func whole(o spend.Order) string {
	list := slices.Clone(o.Pay[:cap(o.Pay)])
	for i, p := range list {
		list[i].Script = p.Script[:cap(p.Script)]
	}
	return fmt.Sprint(o, list)
}

// scribble overwrites all of a transaction, with its spare capacity.
func scribble(x api.Tx) {
	for _, in := range x.In {
		clear(in.Script[:cap(in.Script)])
		for _, b := range in.Witness {
			clear(b[:cap(b)])
		}
		clear(in.Witness[:cap(in.Witness)])
	}
	for _, o := range x.Out {
		clear(o.Script[:cap(o.Script)])
	}
	clear(x.In[:cap(x.In)])
	clear(x.Out[:cap(x.Out)])
}

// TestP25_5Build: the order isn't changed, and shares no memory with what is built, with change and without.
func TestP25_5Build(t *testing.T) {
	w := rich(t, forms(), 100000, 200000)
	order := spend.Order{Pay: slices.Concat(pay(open(), 300000), pay(w.script(1, 0), 1000)), Rate: 1000, Way: 1, Change: 3}
	for outputs, more := range map[int]int64{3: 0, 2: w.spare(order)} {
		o := roomy(order)
		o.Pay[0].Value += more
		before := whole(o)
		x, err := spend.Build(w.Ledger, w.View, o)
		y, _ := spend.Build(w.Ledger, w.View, o)
		if err != api.OK || len(x.Out) != outputs {
			t.Fatalf("%d outputs, error %d", len(x.Out), err)
		}
		if whole(o) != before {
			t.Errorf("the order was changed")
		}
		expectApart(t, "Build", o, x, y)
		want := tx.Clone(y)
		scribble(x)
		if !tx.Same(y, want) || whole(o) != before {
			t.Errorf("what is written to one result is seen elsewhere")
		}
		if z, _ := w.expectBuild(t, "once more", o); !tx.Same(z, want) {
			t.Errorf("what is written to a result is seen in the next one")
		}
	}
}

// TestP25_5Bump: the recorded transaction isn't changed, and shares no memory with what is made.
func TestP25_5Bump(t *testing.T) {
	w := rich(t, forms(), 100000, 200000)
	x := w.send(t, spend.Order{Pay: pay(open(), 1200000), Rate: 1000, Way: 1, Change: 3})
	before := w.clone()
	y := w.expectBump(t, "once", tx.Id(x), 2000, api.OK)
	z := w.expectBump(t, "twice", tx.Id(x), 2000, api.OK)
	recorded, _ := w.Get(tx.Id(x))
	expectApart(t, "Bump", x, y, z, recorded)
	want := tx.Clone(y)
	scribble(z)
	if again := w.expectBump(t, "once more", tx.Id(x), 2000, api.OK); !tx.Same(y, want) || !tx.Same(again, want) || !tx.Same(recorded, x) {
		t.Errorf("what is written to one result is seen elsewhere")
	}
	if !slices.EqualFunc(w.List(), before.List(), tx.Same) {
		t.Errorf("the ledger has changed")
	}
	w.Add(y)
	scribble(y)
	if kept, ok := w.Get(tx.Id(want)); !ok || !tx.Same(kept, want) {
		t.Errorf("what is written to a result is seen in the ledger")
	}
}
