package tree_test

import (
	"slices"
	"testing"

	"strongbox/api"
	"strongbox/block"
	"strongbox/tree"
)

func expectTip(t *testing.T, what string, x *tree.Tree, want api.Header) {
	t.Helper()
	if x.Tip() != block.Id(want) {
		t.Errorf("%s: the Tip has height %d; want another header", what, x.Height(x.Tip()))
	}
}

func expectBanned(t *testing.T, what string, x *tree.Tree, want bool, list ...api.Header) {
	t.Helper()
	for i, h := range list {
		if x.Banned(block.Id(h)) != want {
			t.Errorf("%s: header %d: Banned isn't %v", what, i, want)
		}
	}
}

func TestP15_2None(t *testing.T) {
	x := tree.New(genesis())
	h := grow(t, x, genesis(), 2000)
	id := block.Id(h)
	if got, ok := x.Header(noHash()); ok || got != (api.Header{}) {
		t.Errorf("Header = %v, %v", got, ok)
	}
	if x.Height(noHash()) != -1 || x.Work(noHash()) != (block.Number{}) || len(x.Path(noHash())) != 0 || x.Banned(noHash()) {
		t.Errorf("there is something of no header")
	}
	for _, c := range [][2]api.Hash{{noHash(), id}, {id, noHash()}, {noHash(), noHash()}, {{}, id}, {id, {}}} {
		if got, ok := x.Fork(c[0], c[1]); ok || got != (api.Hash{}) {
			t.Errorf("Fork(%x) = %x, %v", c, got, ok)
		}
	}
	if got, ok := x.At(noHash(), 0); ok || got != (api.Hash{}) {
		t.Errorf("At = %x, %v", got, ok)
	}
}

func TestP15_2ForkAndAt(t *testing.T) {
	x, p := tree.New(genesis()), newPlain(genesis())
	trunk := growAll(t, x, genesis(), spaced(1000, 700, 3)...)
	long := growAll(t, x, trunk[2], spaced(4000, 700, 9)...)
	short := growAll(t, x, trunk[2], spaced(4001, 700, 2)...)
	side := growAll(t, x, genesis(), spaced(1001, 700, 4)...)
	for _, h := range slices.Concat(trunk, long, short, side) {
		if err := p.add(h); err != api.OK {
			t.Fatalf("error %d", err)
		}
	}
	for _, a := range p.list {
		for _, b := range p.list {
			expectFork(t, x, p, block.Id(a), block.Id(b))
		}
		expectFork(t, x, p, block.Id(a), noHash())
		expectFork(t, x, p, noHash(), block.Id(a))
	}
	for _, c := range []struct{ a, b, want api.Header }{
		{long[8], short[1], trunk[2]}, {short[1], long[8], trunk[2]}, {short[0], long[0], trunk[2]}, {side[3], long[8], genesis()}, {side[0], trunk[0], genesis()},
		{trunk[1], long[3], trunk[1]}, {long[3], trunk[1], trunk[1]}, {long[3], long[3], long[3]}, {genesis(), side[2], genesis()}, {genesis(), genesis(), genesis()},
	} {
		if got, ok := x.Fork(block.Id(c.a), block.Id(c.b)); got != block.Id(c.want) || !ok {
			t.Errorf("Fork of the heights %d and %d: the height %d, %v", x.Height(block.Id(c.a)), x.Height(block.Id(c.b)), x.Height(got), ok)
		}
	}
}

// TestP15_2Own: what Path returns is new each time.
func TestP15_2Own(t *testing.T) {
	x, p := tree.New(genesis()), newPlain(genesis())
	for _, h := range growAll(t, x, genesis(), spaced(1000, 700, 4)...) {
		p.add(h)
	}
	one, two := x.Path(x.Tip()), x.Path(x.Tip())
	clear(one[:cap(one)])
	if !slices.Equal(two, p.ids(p.way(4))) {
		t.Errorf("two Paths share memory")
	}
	expectSame(t, x, p)
}

// TestP15_2Long: a long way.
func TestP15_2Long(t *testing.T) {
	x := tree.New(genesis())
	list := growAll(t, x, genesis(), spaced(1000, 20000, 3000)...)
	id := block.Id(list[2999])
	path := x.Path(id)
	if x.Height(id) != 3000 || len(path) != 3001 || path[0] != block.Id(genesis()) || path[1] != block.Id(list[0]) {
		t.Errorf("Height %d, %d Ids", x.Height(id), len(path))
	}
	// Each header has the work 2.
	if got, want := x.Work(id), (block.Number{30: 6002 >> 8, 31: 6002 & 255}); got != want {
		t.Errorf("Work = %x; want %x", got, want)
	}
}

// TestP15_3Example is the chapter's example.
func TestP15_3Example(t *testing.T) {
	x := tree.New(genesis())
	a := grow(t, x, genesis(), 2000)
	expectTip(t, "one child", x, a)
	b := grow(t, x, genesis(), 1500)
	expectTip(t, "two children", x, a)
	c := grow(t, x, b, 3000)
	expectTip(t, "a child of the other one", x, c)
	grow(t, x, a, 2001)
	expectTip(t, "a child of each", x, c)
}

// TestP15_3Work: the tip is the header with the most work, not the highest one.
func TestP15_3Work(t *testing.T) {
	x := tree.New(genesis())
	fast := growAll(t, x, genesis(), spaced(1000, 10, 8)...)
	slow := growAll(t, x, genesis(), spaced(1001, 1000, 10)...)
	if x.Height(block.Id(slow[9])) != 10 || fast[7].Bits != 0x201fffff {
		t.Fatalf("bits %x", fast[7].Bits)
	}
	expectTip(t, "eight headers, the last one with four times the work", x, fast[7])
	eleven := grow(t, x, slow[9], 20000)
	expectTip(t, "equal work, later", x, fast[7])
	expectTip(t, "more work", x, grow(t, x, eleven, 21000))
	x.Ban(block.Id(eleven))
	expectTip(t, "a ban", x, fast[7])
}

// TestP15_3TipOrder: of equal ones the first one that was added is the tip, also once others are banned.
func TestP15_3TipOrder(t *testing.T) {
	x := tree.New(genesis())
	var all []api.Header
	for i := range 6 {
		all = append(all, grow(t, x, genesis(), 2000-uint32(i)))
	}
	for i := range 5 {
		expectTip(t, "children", x, all[i])
		x.Ban(block.Id(all[i]))
	}
	expectTip(t, "the last child", x, all[5])
	x.Ban(block.Id(all[5]))
	expectTip(t, "no child", x, genesis())
	expectBanned(t, "all", x, true, all...)
	expectTip(t, "a child that is added later", x, grow(t, x, genesis(), 1100))
}

func TestP15_3Ban(t *testing.T) {
	x := tree.New(genesis())
	trunk := growAll(t, x, genesis(), spaced(1000, 700, 3)...)
	long := growAll(t, x, trunk[2], spaced(4000, 700, 6)...)
	short := growAll(t, x, trunk[2], spaced(4001, 700, 2)...)
	x.Ban(block.Id(long[1]))
	expectBanned(t, "descendants", x, true, long[1:]...)
	expectBanned(t, "others", x, false, slices.Concat(trunk, long[:1], short, []api.Header{genesis()})...)
	expectTip(t, "the rest", x, short[1])
	late := growAll(t, x, long[5], spaced(9000, 700, 3)...)
	expectBanned(t, "later descendants", x, true, late...)
	expectTip(t, "later descendants", x, short[1])
	if x.Count() != 15 || x.Height(block.Id(late[2])) != 12 || x.Median(block.Id(late[2])) == 0 {
		t.Errorf("a banned header isn't there")
	}
	expectAdd(t, "a header that is banned", x, long[1], api.ErrThere)
	expectAdd(t, "an early child of a banned header", x, after(x, late[2], 5000), api.ErrEarly)
	x.Ban(block.Id(long[5]))
	x.Ban(block.Id(long[1]))
	expectTip(t, "once more", x, short[1])
	x.Ban(block.Id(trunk[2]))
	expectTip(t, "the trunk", x, trunk[1])
	expectBanned(t, "the trunk", x, true, slices.Concat(trunk[2:], long, short, late)...)
	expectBanned(t, "the trunk", x, false, genesis(), trunk[0], trunk[1])
}

// TestP15_3BanNothing: neither the first header nor one that doesn't exist can be banned.
func TestP15_3BanNothing(t *testing.T) {
	x := tree.New(genesis())
	list := growAll(t, x, genesis(), spaced(1000, 700, 3)...)
	coming := after(x, list[2], 5000)
	for _, id := range []api.Hash{block.Id(genesis()), noHash(), {}, block.Id(coming)} {
		x.Ban(id)
		expectBanned(t, "nothing", x, false, append(list, genesis(), coming)...)
		if x.Banned(noHash()) || x.Banned(api.Hash{}) {
			t.Errorf("a header that doesn't exist is banned")
		}
		expectTip(t, "nothing", x, list[2])
	}
	expectAdd(t, "a header", x, coming, api.OK)
	expectTip(t, "the header that came later", x, coming)
	expectBanned(t, "the header that came later", x, false, coming)
}

// TestP15_4Clone: neither of two copies sees what becomes of the other one.
func TestP15_4Clone(t *testing.T) {
	x, p := tree.New(genesis()), newPlain(genesis())
	list := growAll(t, x, genesis(), spaced(1000, 700, 5)...)
	for _, h := range list {
		p.add(h)
	}
	x.Ban(block.Id(list[4]))
	p.ban(block.Id(list[4]))
	y, q := x.Clone(), p.clone()
	expectSame(t, y, q)
	for _, time := range []uint32{5000, 6000} {
		h := grow(t, x, list[3], time)
		p.add(h)
		expectSame(t, x, p)
		expectSame(t, y, q)
	}
	for _, h := range growAll(t, y, list[1], spaced(3000, 700, 4)...) {
		q.add(h)
	}
	expectSame(t, x, p)
	expectSame(t, y, q)
	x.Ban(block.Id(list[0]))
	p.ban(block.Id(list[0]))
	expectSame(t, x, p)
	expectSame(t, y, q)
	y.Ban(block.Id(list[3]))
	q.ban(block.Id(list[3]))
	expectSame(t, x, p)
	expectSame(t, y, q)
	z := y.Clone().Clone()
	y.Ban(block.Id(list[0]))
	expectSame(t, z, q)
}
