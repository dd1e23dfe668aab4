package ledger_test

import (
	"bytes"
	"math"
	"strings"
	"testing"

	"strongbox/api"
	"strongbox/ledger"
	"strongbox/tx"
)

func TestP22_5Lock(t *testing.T) {
	l := ledger.New()
	places := []api.OutPoint{{}, {Index: 1}, {Index: math.MaxUint32}, {Hash: api.Hash{1}}, {Hash: api.Hash{31: 1}, Index: 1}}
	for i, p := range places {
		if l.Locked(p) {
			t.Errorf("%d is locked at first", i)
		}
		l.Lock(p, false)
		l.Lock(p, true)
		l.Lock(p, true)
		for j, q := range places {
			if l.Locked(q) != (j <= i) {
				t.Errorf("after %d, Locked of %d = %t", i, j, l.Locked(q))
			}
		}
	}
	for i, p := range places {
		l.Lock(p, false)
		for j, q := range places {
			if l.Locked(q) != (j > i) {
				t.Errorf("after %d was unlocked, Locked of %d = %t", i, j, l.Locked(q))
			}
		}
	}
	if !l.Same(ledger.New()) {
		t.Errorf("something remains")
	}
}

func TestP22_5Label(t *testing.T) {
	l := ledger.New()
	a, b := []byte{1, 2, 3}, []byte{1, 2}
	for _, c := range []struct {
		script []byte
		s      string
		err    api.Errno
		a, b   string
	}{
		{a, "", api.OK, "", ""},
		{a, "rent", api.OK, "rent", ""},
		{b, "food", api.OK, "rent", "food"},
		{a, strings.Repeat("x", 101), api.ErrSize, "rent", "food"},
		{a, strings.Repeat("x", 100), api.OK, strings.Repeat("x", 100), "food"},
		{a, strings.Repeat("ü", 51), api.ErrSize, strings.Repeat("x", 100), "food"},
		{a, strings.Repeat("ü", 50), api.OK, strings.Repeat("ü", 50), "food"},
		{b, strings.Repeat("x", 100000), api.ErrSize, strings.Repeat("ü", 50), "food"},
		{b, "\x00\xff", api.OK, strings.Repeat("ü", 50), "\x00\xff"},
		{a, "", api.OK, "", "\x00\xff"},
		{b, "", api.OK, "", ""},
	} {
		if err := l.Label(c.script, c.s); err != c.err {
			t.Errorf("Label of %x with %d bytes: error %d; want %d", c.script, len(c.s), err, c.err)
		}
		if l.Labeled(a) != c.a || l.Labeled(b) != c.b {
			t.Errorf("Labeled = %q, %q; want %q, %q", l.Labeled(a), l.Labeled(b), c.a, c.b)
		}
	}
	if !l.Same(ledger.New()) {
		t.Errorf("something remains")
	}
}

// TestP22_5Scripts: any bytes can have a label; nil and empty ones are the same.
func TestP22_5Scripts(t *testing.T) {
	l := ledger.New()
	long := bytes.Repeat([]byte{7}, 100000)
	for i, script := range [][]byte{nil, {0}, {0, 0}, long, long[1:]} {
		if l.Labeled(script) != "" || l.Label(script, strings.Repeat("x", i+1)) != api.OK || len(l.Labeled(script)) != i+1 {
			t.Errorf("%d: Labeled = %q", i, l.Labeled(script))
		}
	}
	if l.Labeled([]byte{}) != "x" || l.Labeled(nil) != "x" || l.Labeled(long[2:]) != "" {
		t.Errorf("Labeled = %q, %q, %q", l.Labeled([]byte{}), l.Labeled(nil), l.Labeled(long[2:]))
	}
}

// several returns three transactions of nothing in particular.
func several() []api.Tx {
	var list []api.Tx
	for i := range uint32(3) {
		list = append(list, spending(pay(open(), 1), api.OutPoint{Index: i}))
	}
	return list
}

// changed returns ledgers, of which each differs in one thing from one that has two transactions, of which the second one is abandoned, a lock and a label.
func changed(v ledger.View) (base func() *ledger.Ledger, others []*ledger.Ledger) {
	list := several()
	of := func(n ...int) *ledger.Ledger {
		l := ledger.New()
		for _, i := range n {
			l.Add(list[i])
		}
		l.Abandon(v, tx.Id(list[1]))
		l.Lock(api.OutPoint{Index: 5}, true)
		l.Label([]byte{1}, "rent")
		return l
	}
	base = func() *ledger.Ledger { return of(0, 1) }
	others = []*ledger.Ledger{ledger.New(), of(0), of(1, 0), of(0, 1, 2), of(2, 1)}
	for _, change := range []func(l *ledger.Ledger){
		func(l *ledger.Ledger) { l.Abandon(v, tx.Id(list[0])) },
		func(l *ledger.Ledger) { l.Lock(api.OutPoint{Index: 5}, false) },
		func(l *ledger.Ledger) { l.Lock(api.OutPoint{Index: 6}, true) },
		func(l *ledger.Ledger) {
			l.Lock(api.OutPoint{Index: 5}, false)
			l.Lock(api.OutPoint{Index: 6}, true)
		},
		func(l *ledger.Ledger) { l.Label([]byte{1}, "") },
		func(l *ledger.Ledger) { l.Label([]byte{1}, "food") },
		func(l *ledger.Ledger) { l.Label([]byte{2}, "rent") },
		func(l *ledger.Ledger) {
			l.Label([]byte{1}, "")
			l.Label([]byte{2}, "rent")
		},
	} {
		l := base()
		change(l)
		others = append(others, l)
	}
	return base, others
}

func TestP22_5Same(t *testing.T) {
	w := walletOf(t, 1)
	base, others := changed(w.View)
	l := base()
	if !l.Same(l) || !l.Same(base()) || !l.Same(l.Clone()) || !l.Clone().Same(l) || !ledger.New().Same(ledger.New()) {
		t.Errorf("ledgers of the same aren't the Same")
	}
	for i, m := range others {
		if l.Same(m) || m.Same(l) {
			t.Errorf("the ledger %d is the Same", i)
		}
	}
	plain := ledger.New()
	for _, x := range several()[:2] {
		x.In[0].Witness = [][]byte{{1}}
		plain.Add(x)
	}
	plain.Abandon(w.View, plainId(plain, 1))
	plain.Lock(api.OutPoint{Index: 5}, true)
	plain.Label([]byte{1}, "x")
	plain.Label([]byte{1}, "rent")
	if !l.Same(plain) {
		t.Errorf("with other witnesses, it isn't the Same")
	}
}

func plainId(l *ledger.Ledger, i int) api.Hash { return tx.Id(l.List()[i]) }

// TestP22_5Clone: what happens to a ledger does not happen to its copy.
func TestP22_5Clone(t *testing.T) {
	w := walletOf(t, 1)
	base, _ := changed(w.View)
	list := several()
	three := func() *ledger.Ledger {
		l := base()
		l.Add(list[2])
		return l
	}
	change := func(l *ledger.Ledger, i int) {
		l.Add(spending(nil, api.OutPoint{Index: uint32(i)}))
		l.Abandon(w.View, tx.Id(list[0]))
		l.Lock(api.OutPoint{Index: 5}, false)
		l.Lock(api.OutPoint{Index: uint32(i)}, true)
		l.Label([]byte{1}, "food")
		l.Label([]byte{byte(i)}, "else")
	}
	l := three()
	m, untouched := l.Clone(), l.Clone()
	change(l, 7)
	if !m.Same(three()) || !untouched.Same(three()) || l.Same(m) {
		t.Errorf("what happened to the ledger happened to its copy")
	}
	change(m, 8)
	again := three()
	change(again, 7)
	if !l.Same(again) || !untouched.Same(three()) || len(l.List()) != 4 || !l.Locked(api.OutPoint{Index: 7}) || l.Locked(api.OutPoint{Index: 8}) || l.Labeled([]byte{8}) != "" {
		t.Errorf("what happened to the copy happened to the ledger")
	}
	if _, ok := untouched.Get(tx.Id(spending(nil, api.OutPoint{Index: 7}))); ok {
		t.Errorf("the copy has what was added later")
	}
	if state, _ := untouched.State(w.View, tx.Id(list[0])); state != ledger.Inactive {
		t.Errorf("the state in the copy: %d", state)
	}
}

// TestP22_5Abandoned: a copy has the same abandoned ones.
func TestP22_5Abandoned(t *testing.T) {
	w := walletOf(t, 1)
	base, _ := changed(w.View)
	l := base().Clone()
	for i, want := range []int{ledger.Inactive, ledger.Abandoned} {
		if state, _ := l.State(w.View, plainId(l, i)); state != want {
			t.Errorf("State of %d = %d; want %d", i, state, want)
		}
	}
	if !l.Locked(api.OutPoint{Index: 5}) || l.Labeled([]byte{1}) != "rent" || len(l.List()) != 2 {
		t.Errorf("the copy has something else")
	}
}
