package node_test

import (
	"fmt"
	"math"
	"slices"
	"testing"

	"strongbox/api"
	"strongbox/block"
	"strongbox/disk"
	"strongbox/journal"
	"strongbox/node"
	"strongbox/tx"
)

// story is operations of all kinds, and what is told before each of them and behind the last one.
type story struct {
	ops  []node.Op
	told []string
}

// storyOf lets a world tell one.
func storyOf(t *testing.T) story {
	t.Helper()
	w := worldOf(t, 1)
	var s story
	do := func(o node.Op) node.Answer {
		s.ops, s.told = append(s.ops, o), append(s.told, all(w))
		return w.do(t, o, api.OK)
	}
	receive := func(b api.Block) { do(node.Op{Kind: node.Block, Data: block.Encode(b)}) }
	do(node.Op{Kind: node.Desc, Text: texts()[0]})
	first := w.child(w.Tip(), slices.Concat(pay(open(), api.Coin), pay(w.Scripts()[0], api.Coin, 2*api.Coin)))
	receive(first)
	for range 10 {
		receive(w.Block())
	}
	do(node.Op{Kind: node.Tx, Data: tx.Encode(spending(pay(w.Scripts()[0], api.Coin-10000), made(first.Txs[0], 0)), true)})
	do(node.Op{Kind: node.Take})
	sent := do(node.Op{Kind: node.Send, Order: order(api.Coin / 2)})
	do(node.Op{Kind: node.Bump, Id: sent.Id, Rate: 3000})
	do(node.Op{Kind: node.Abandon, Id: sent.Id})
	do(node.Op{Kind: node.Lock, Place: w.Coins()[0].Place, On: true})
	do(node.Op{Kind: node.Label, Data: w.Scripts()[0], Text: "rent"})
	beside := w.child(w.up(1), pay(w.Scripts()[2], api.Coin))
	receive(beside)
	receive(w.child(id(beside), pay(open(), api.Coin)))
	do(node.Op{Kind: node.Rescan, N: 2})
	receive(w.Block())
	s.told = append(s.told, all(w))
	return s
}

// reopened returns what a node tells that is opened on a disk.
func reopened(t *testing.T, d *disk.Disk) string {
	t.Helper()
	n, err := node.Open(d, 1)
	if err != api.OK {
		t.Errorf("Open: error %d", err)
		return ""
	}
	return all(n)
}

// expectDead: a node whose disk has died does nothing any more, and tells what it did.
func expectDead(t *testing.T, what string, n *node.Node, want string) {
	t.Helper()
	for _, o := range []node.Op{{Kind: node.Lock, On: true}, {Kind: 99}, {Kind: node.Desc}} {
		if a := n.Do(o); fmt.Sprint(a) != fmt.Sprint(node.Answer{Err: api.ErrDead}) {
			t.Errorf("%s: operation %d: %v", what, o.Kind, a)
		}
	}
	if err := n.Compact(); err != api.ErrDead {
		t.Errorf("%s: Compact: error %d", what, err)
	}
	if all(n) != want {
		t.Errorf("%s: the node has changed", what)
	}
}

// expectSafe: after every crash that is possible now, the disk has one of these states.
func expectSafe(t *testing.T, what string, d *disk.Disk, states ...string) {
	t.Helper()
	for keep := range d.Pending() + 1 {
		for _, torn := range []int{0, 1, 40, 63} {
			crashed := d.Twin()
			crashed.Crash(keep, torn)
			if !slices.Contains(states, reopened(t, crashed)) {
				t.Errorf("%s: with %d kept and %d torn there is something else", what, keep, torn)
			}
		}
	}
}

// TestP26_2Safe: wherever the disk dies, and whatever is kept and torn, an operation was performed or not.
func TestP26_2Safe(t *testing.T) {
	s := storyOf(t)
	d := disk.New(2000)
	for i, o := range s.ops {
		i, o, before := i, o, d.Twin()
		t.Run(fmt.Sprint(i), func(t *testing.T) {
			t.Parallel()
			safeAt(t, s, i, before)
		})
		n, err := node.Open(d, 1)
		if err != api.OK || all(n) != s.told[i] {
			t.Fatalf("Open before operation %d: error %d", i, err)
		}
		if a := n.Do(o); a.Err != api.OK {
			t.Fatalf("operation %d: error %d", i, a.Err)
		}
		expectSafe(t, "after the operation", d, s.told[i+1])
		if i%5 == 4 {
			n.Compact()
		}
	}
}

// safeAt lets the disk die at each call within an operation.
func safeAt(t *testing.T, s story, i int, before *disk.Disk) {
	for calls := 0; ; calls++ {
		d := before.Twin()
		n, _ := node.Open(d, 1)
		d.Arm(calls)
		a := n.Do(s.ops[i])
		if a.Err == api.OK {
			if calls == 0 {
				t.Errorf("nothing was written")
			}
			return
		}
		what := fmt.Sprintf("operation %d, dead after %d calls", i, calls)
		if fmt.Sprint(a) != fmt.Sprint(node.Answer{Err: api.ErrDead}) {
			t.Errorf("%s: %v", what, a)
		}
		expectDead(t, what, n, s.told[i])
		expectSafe(t, what, d, s.told[i], s.told[i+1])
		d.Crash(0, 0)
		expectDead(t, what+", and crashed", n, s.told[i])
	}
}

// TestP26_2Goes: a node that is opened after a crash goes on.
func TestP26_2Goes(t *testing.T) {
	w := worldOf(t, 1, texts()[0])
	for calls := range 40 {
		w.disk.Arm(calls % 9)
		for n := 0; ; n++ {
			o := node.Op{Kind: node.Lock, Place: api.OutPoint{Index: uint32(calls)}, On: true}
			if a := w.Do(o); a.Err == api.ErrDead {
				w.disk.Crash(calls%5, calls)
				w.open2(t, o)
				break
			}
			w.plain.perform(o)
			w.plain.ops = append(w.plain.ops, o)
			w.expect(t, "Lock")
		}
		if calls%7 == 0 && w.Compact() != api.OK {
			t.Errorf("Compact: an error")
		}
	}
}

// open2 opens the disk, after which the last operation was performed or not.
func (w *world) open2(t *testing.T, last node.Op) {
	t.Helper()
	n, err := node.Open(w.disk, w.plain.gap)
	if err != api.OK {
		t.Fatalf("Open: error %d", err)
	}
	w.Node = n
	if n.Ops() > len(w.plain.ops) {
		w.plain.perform(last)
		w.plain.ops = append(w.plain.ops, last)
	}
	w.expect(t, "Open")
}

// TestP26_2Refused: what is refused is not written, and a dead disk is not noticed by it.
func TestP26_2Refused(t *testing.T) {
	w := worldOf(t, 1, texts()[0])
	w.disk.Arm(0)
	w.do(t, node.Op{Kind: node.Desc, Text: texts()[0]}, api.ErrThere)
	w.do(t, node.Op{Kind: 11}, api.ErrArg)
	if w.disk.Dead() {
		t.Errorf("something was written")
	}
	if a := w.Do(node.Op{Kind: node.Take}); a.Err != api.ErrDead {
		t.Errorf("error %d", a.Err)
	}
	expectDead(t, "dead", w.Node, all(told{w.plain}))
	if n, err := node.Open(w.disk, 1); n != nil || err != api.ErrDead {
		t.Errorf("Open of a dead disk: error %d", err)
	}
}

// TestP26_1Open: the errors of the journal, and of what is stored.
func TestP26_1Open(t *testing.T) {
	for sectors, want := range map[int]api.Errno{0: api.ErrFull, 15: api.ErrFull, 16: api.OK} {
		if n, err := node.Open(disk.New(sectors), 1); err != want || (n == nil) != (want != api.OK) {
			t.Errorf("%d sectors: error %d; want %d", sectors, err, want)
		}
	}
	good := node.Op{Kind: node.Lock}.Bytes()
	stored := func(state []byte, records ...[]byte) api.Errno {
		d := disk.New(1000)
		j, _ := journal.Open(d)
		if state != nil {
			j.Compact(state)
		}
		for _, r := range records {
			j.Append(r)
		}
		n, err := node.Open(d, 1)
		if (n == nil) != (err != api.OK) {
			t.Errorf("a node beside the error %d", err)
		}
		return err
	}
	for _, c := range []struct {
		state   []byte
		records [][]byte
		want    api.Errno
	}{
		{nil, [][]byte{good, good}, api.OK}, {[]byte{}, [][]byte{good}, api.OK}, {nil, [][]byte{good, {}}, api.ErrForm}, {nil, [][]byte{{}, good}, api.ErrForm}, {nil, [][]byte{good[:5]}, api.ErrForm}, {nil, [][]byte{append(slices.Clone(good), 0)}, api.ErrForm}, {nil, [][]byte{{77}}, api.ErrForm},
		{[]byte("something"), nil, api.ErrForm}, {[]byte{0}, nil, api.ErrForm}, {[]byte{255, 255, 255, 255, 255, 255, 255, 255, 255}, nil, api.ErrForm},
		// An operation that is refused.
		{nil, [][]byte{node.Op{Kind: node.Take}.Bytes()}, api.ErrForm}, {nil, [][]byte{good, node.Op{Kind: node.Block}.Bytes()}, api.ErrForm},
	} {
		if err := stored(c.state, c.records...); err != c.want {
			t.Errorf("%x, %x: error %d; want %d", c.state, c.records, err, c.want)
		}
	}
}

// TestP26_1Gap: the gap is limited as in layer 21; another one than before may refuse what is stored.
func TestP26_1Gap(t *testing.T) {
	for gap, want := range map[int]int{math.MinInt: 1, -1: 1, 0: 1, 1: 1, 2: 2, 100: 100, 101: 100, math.MaxInt: 100} {
		n, _ := node.Open(disk.New(100), gap)
		if n.Do(node.Op{Kind: node.Desc, Text: texts()[0]}); len(n.Scripts()) != want {
			t.Errorf("the gap %d: %d scripts; want %d", gap, len(n.Scripts()), want)
		}
	}
	w := worldOf(t, 5, texts()[0])
	b := w.child(w.Tip(), pay(w.Scripts()[4], api.Coin))
	w.receive(t, b, api.OK)
	w.grow(t, 9)
	if n, err := node.Open(w.disk, 2); err != api.OK || len(n.Own()) != 9 || len(n.Scripts()) != 3 {
		t.Errorf("a smaller gap: error %d", err)
	}
	o := order(api.Coin / 2)
	w.do(t, node.Op{Kind: node.Send, Order: o}, api.OK)
	if n, err := node.Open(w.disk, 2); err != api.ErrForm || n != nil {
		t.Errorf("a smaller gap: error %d", err)
	}
	w.open(t)
}

// TestP26_1Full: what there is no room for is refused, and nothing changes.
func TestP26_1Full(t *testing.T) {
	w := &world{plain: plainOf(1), disk: disk.New(24)}
	w.open(t)
	w.do(t, node.Op{Kind: node.Desc, Text: texts()[0]}, api.OK)
	full := func() {
		for n := uint32(0); ; n++ {
			o := node.Op{Kind: node.Lock, Place: api.OutPoint{Index: n}, On: true}
			if a := w.Do(o); a.Err != api.OK {
				if fmt.Sprint(a) != fmt.Sprint(node.Answer{Err: api.ErrFull}) || n == 0 {
					t.Fatalf("operation %d: %v", n, a)
				}
				break
			}
			_, w.plain = w.plain.tried(o)
			w.expect(t, "Lock")
		}
		w.expect(t, "full")
		if a := w.Do(node.Op{Kind: node.Label, Data: make([]byte, 1000)}); a.Err != api.ErrFull {
			t.Errorf("error %d", a.Err)
		}
		w.do(t, node.Op{Kind: node.Desc, Text: texts()[0]}, api.ErrThere)
		w.do(t, node.Op{Kind: node.Abandon}, api.ErrNone)
		w.expect(t, "full")
		w.open(t)
	}
	full()
	if err := w.Compact(); err != api.OK {
		t.Errorf("Compact: error %d", err)
	}
	w.expect(t, "Compact")
	full()
}

// TestP26_1NotHandedOut: what there was no room for doesn't show when the ring is rebuilt either.
func TestP26_1NotHandedOut(t *testing.T) {
	w := &world{plain: plainOf(1), disk: disk.New(300)}
	w.open(t)
	w.do(t, node.Op{Kind: node.Desc, Text: texts()[0]}, api.OK)
	w.grow(t, 2)
	refuse := func(o node.Op) {
		if a := w.Do(o); fmt.Sprint(a) != fmt.Sprint(node.Answer{Err: api.ErrFull}) {
			t.Errorf("operation %d: %v", o.Kind, a)
		}
	}
	o := node.Op{Kind: node.Lock, On: true}
	for ; w.Do(o).Err == api.OK; o.Place.Index++ {
		_, w.plain = w.plain.tried(o)
	}
	refuse(node.Op{Kind: node.Take})
	refuse(node.Op{Kind: node.Take})
	refuse(node.Op{Kind: node.Desc, Text: texts()[2]})
	refuse(node.Op{Kind: node.Block, Data: block.Encode(w.Block())})
	w.expect(t, "full")
	if err := w.Compact(); err != api.OK {
		t.Errorf("Compact: error %d", err)
	}
	w.fork(t, 1, open())
	w.do(t, node.Op{Kind: node.Take}, api.OK)
	w.do(t, node.Op{Kind: node.Desc, Text: texts()[2]}, api.OK)
	w.fork(t, 1, open())
	w.open(t)
}

// TestP26_3Compact: nothing changes by it, then and later, and what is stored is no longer than it may be.
func TestP26_3Compact(t *testing.T) {
	w := worldOf(t, 2, texts()...)
	most := 0
	for _, o := range w.plain.ops {
		most += len(o.Bytes()) + 20
	}
	do := func(o node.Op) {
		w.do(t, o, api.OK)
		most += len(o.Bytes()) + 20
	}
	for n := range 30 {
		do(node.Op{Kind: node.Block, Data: block.Encode(w.Block())})
		do(node.Op{Kind: node.Lock, Place: api.OutPoint{Index: uint32(n)}, On: true})
		if n%3 == 2 {
			do(node.Op{Kind: node.Label, Data: make([]byte, 300*n), Text: "x"})
			for range n % 4 {
				if err := w.Compact(); err != api.OK {
					t.Errorf("Compact: error %d", err)
				}
				w.expect(t, "Compact")
			}
		}
		if n%4 == 0 {
			w.open(t)
		}
		j, _ := journal.Open(w.disk)
		if len(j.State()) > most {
			t.Errorf("a state of %d bytes; at most %d", len(j.State()), most)
		}
	}
}

// TestP26_3Errors: those of journal.Compact, by which nothing changes.
func TestP26_3Errors(t *testing.T) {
	w := &world{plain: plainOf(1), disk: disk.New(65536)}
	w.open(t)
	for range 18 {
		w.receive(t, w.child(w.Tip(), pay(make([]byte, 59000), 1)), api.OK)
	}
	for range 2 {
		if err := w.Compact(); err != api.ErrSize {
			t.Errorf("Compact: error %d", err)
		}
		w.expect(t, "Compact")
		w.grow(t, 1)
		w.open(t)
	}
	d := disk.New(300)
	n, _ := node.Open(d, 1)
	n.Do(node.Op{Kind: node.Desc, Text: texts()[0]})
	want := all(n)
	for calls := 0; ; calls++ {
		e := d.Twin()
		n, _ := node.Open(e, 1)
		e.Arm(calls)
		err := n.Compact()
		if err == api.OK {
			break
		}
		if err != api.ErrDead {
			t.Errorf("Compact: error %d", err)
		}
		expectDead(t, "Compact", n, want)
		expectSafe(t, "Compact", e, want)
	}
}
