package tree_test

import (
	"math"
	"slices"
	"testing"

	"strongbox/api"
	"strongbox/block"
	"strongbox/tree"
)

// noHash is the Id of no header in these tests.
func noHash() api.Hash { return api.Hash{9, 9, 9} }

func genesis() api.Header { return api.Header{Version: 1, Time: 1000, Bits: api.PowLimit} }

// after returns a header that may follow another one, at a time.
func after(x *tree.Tree, parent api.Header, time uint32) api.Header {
	return mined(api.Header{Prev: block.Id(parent), Time: time, Bits: x.Expected(block.Id(parent))}, true)
}

// grow adds a header that follows another one at a time, and returns it.
func grow(t *testing.T, x *tree.Tree, parent api.Header, time uint32) api.Header {
	t.Helper()
	h := after(x, parent, time)
	if err := x.Add(h); err != api.OK {
		t.Fatalf("Add: error %d", err)
	}
	return h
}

// growAll adds headers that follow one another at these times, and returns all of them.
func growAll(t *testing.T, x *tree.Tree, parent api.Header, times ...uint32) []api.Header {
	t.Helper()
	var list []api.Header
	for _, time := range times {
		parent = grow(t, x, parent, time)
		list = append(list, parent)
	}
	return list
}

func expectAdd(t *testing.T, what string, x *tree.Tree, h api.Header, want api.Errno) {
	t.Helper()
	count, tip, work := x.Count(), x.Tip(), x.Work(block.Id(h))
	if err := x.Add(h); err != want {
		t.Errorf("Add of %s: error %d; want %d", what, err, want)
	}
	if want != api.OK && (x.Count() != count || x.Tip() != tip || x.Work(block.Id(h)) != work) {
		t.Errorf("Add of %s changed the tree", what)
	}
}

// TestP15_1New: whatever the first header is.
func TestP15_1New(t *testing.T) {
	for _, h := range []api.Header{
		{}, genesis(), mined(genesis(), false), mined(genesis(), true), {Version: -1, Prev: noHash(), Merkle: noHash(), Time: math.MaxUint32, Bits: math.MaxUint32, Nonce: math.MaxUint32},
		{Bits: 0x1d00ffff}, {Bits: 0x03000001}, {Bits: 0x20800000}, {Bits: 0x04800001},
	} {
		x, id := tree.New(h), block.Id(h)
		if x.Count() != 1 || x.Tip() != id || x.Height(id) != 0 || x.Work(id) != block.Work(h.Bits) || x.Expected(id) != h.Bits || x.Median(id) != h.Time || x.Banned(id) {
			t.Errorf("New(%v): another tree", h)
		}
		if got, ok := x.Header(id); got != h || !ok || !slices.Equal(x.Path(id), []api.Hash{id}) {
			t.Errorf("New(%v): header %v, %v", h, got, ok)
		}
		expectAdd(t, "the first header", x, h, api.ErrThere)
		expectAdd(t, "a header without a parent", x, mined(api.Header{Prev: noHash(), Time: math.MaxUint32, Bits: api.PowLimit}, true), api.ErrNone)
	}
}

// TestP15_1AddBadFirst: nothing follows a header whose Bits aren't those of a target.
func TestP15_1AddBadFirst(t *testing.T) {
	for _, bits := range []uint32{0, 0x20800000, 0x21010000, 0xffffffff} {
		first := api.Header{Bits: bits}
		x := tree.New(first)
		expectAdd(t, "the same bits", x, api.Header{Prev: block.Id(first), Time: 1, Bits: bits}, api.ErrWork)
		expectAdd(t, "other bits", x, mined(api.Header{Prev: block.Id(first), Time: 1, Bits: api.PowLimit}, true), api.ErrWork)
	}
}

// Errors that a header can have at once, in the order in which Add tells them.
const (
	badParent = 1 << iota
	badBits
	badProof
	badTime
	allBad
)

func TestP15_1AddOrder(t *testing.T) {
	for bad := range allBad {
		x := tree.New(genesis())
		last := growAll(t, x, genesis(), 2000, 3000, 4000)[2]
		h, want := api.Header{Prev: block.Id(last), Time: 3001, Bits: api.PowLimit}, api.OK
		if bad&badTime != 0 {
			h.Time, want = 3000, api.ErrEarly
		}
		if bad&badBits != 0 {
			h.Bits, want = api.PowLimit-1, api.ErrWork
		}
		if bad&badProof != 0 {
			want = api.ErrWork
		}
		if bad&badParent != 0 {
			h.Prev, want = noHash(), api.ErrNone
		}
		h = mined(h, bad&badProof == 0)
		expectAdd(t, "a header with the errors "+string(rune('a'+bad)), x, h, want)
		if want == api.OK {
			expectAdd(t, "a header that is there", x, h, api.ErrThere)
		}
		expectAdd(t, "the first header", x, genesis(), api.ErrThere)
		expectAdd(t, "one in the middle", x, last, api.ErrThere)
	}
}

func TestP15_1AddBits(t *testing.T) {
	x := tree.New(genesis())
	for _, bits := range []uint32{0, 0x207ffffe, 0x20800000, 0x1f7fffff, 0x1f7fff, 0x21007fff, 0xffffffff} {
		h := api.Header{Prev: block.Id(genesis()), Time: 5000, Bits: bits}
		if _, err := block.Target(bits); err == api.OK && bits > 0x1f000000 {
			h = mined(h, true)
		}
		expectAdd(t, "other bits", x, h, api.ErrWork)
	}
}

// TestP15_1Median takes the last five times, sorted; of two middle ones the later one.
func TestP15_1Median(t *testing.T) {
	x, at := tree.New(genesis()), genesis()
	if got := x.Median(block.Id(at)); got != 1000 {
		t.Errorf("Median of the first header = %d", got)
	}
	for i, c := range []struct{ time, median uint32 }{
		{5000, 5000},
		{7000, 5000},
		{5001, 5001},
		{9000, 5001},
		{5002, 5002},
		{5003, 5003},
		{5004, 5003},
		{8000, 5004},
		{5005, 5004},
		{5006, 5005},
		{6000, 5006},
		{5500, 5500},
		{5501, 5500},
		{5502, 5501},
	} {
		parent := x.Median(block.Id(at))
		for _, time := range []uint32{0, 1, parent - 1, parent} {
			expectAdd(t, "an early header", x, after(x, at, time), api.ErrEarly)
		}
		at = grow(t, x, at, c.time)
		if got := x.Median(block.Id(at)); got != c.median {
			t.Errorf("Median of header %d = %d; want %d", i+1, got, c.median)
		}
		y := x.Clone()
		grow(t, y, at, c.median+1)
	}
	if got := x.Median(noHash()); got != 0 {
		t.Errorf("Median of no header = %d", got)
	}
}

// TestP15_1MedianEnd: at the greatest time nothing can follow.
func TestP15_1MedianEnd(t *testing.T) {
	first := api.Header{Time: math.MaxUint32 - 1, Bits: api.PowLimit}
	x := tree.New(first)
	last := grow(t, x, first, math.MaxUint32)
	expectAdd(t, "a header after the greatest time", x, after(x, last, math.MaxUint32), api.ErrEarly)
	expectAdd(t, "a header at 0", x, after(x, last, 0), api.ErrEarly)
}

// spaced returns n times that follow a time at the same distance.
func spaced(from, step uint32, n int) []uint32 {
	var times []uint32
	for i := range n {
		times = append(times, from+step*uint32(i+1))
	}
	return times
}

func TestP15_1Expected(t *testing.T) {
	for _, c := range []struct {
		step uint32
		want [3]uint32 // at the heights 8, 16 and 24
	}{
		{1, [3]uint32{0x201fffff, 0x2007ffff, 0x2001ffff}},
		{171, [3]uint32{0x201fffff, 0x2007ffff, 0x2001ffff}},
		{172, [3]uint32{0x20201b4e, 0x20080dac, 0x20020522}},
		{343, [3]uint32{0x204006d3, 0x202006d3, 0x2010051e}},
		{600, [3]uint32{0x206fffff, 0x2061ffff, 0x2055bfff}},
		{685, [3]uint32{0x207fdddc, 0x207fbbc2, 0x207f99b2}},
		{686, [3]uint32{0x207fffff, 0x207fffff, 0x207fffff}},
		{100000, [3]uint32{0x207fffff, 0x207fffff, 0x207fffff}},
	} {
		x, at := tree.New(genesis()), genesis()
		bits := uint32(api.PowLimit)
		for height := 1; height <= 24; height++ {
			if height%8 == 0 {
				// Seven distances lie between eight headers.
				bits = block.Next(bits, int64(7*c.step))
				if bits != c.want[height/8-1] {
					t.Fatalf("step %d, height %d: the table has %x, block.Next %x", c.step, height, c.want[height/8-1], bits)
				}
			}
			if got := x.Expected(block.Id(at)); got != bits {
				t.Fatalf("step %d: Expected at height %d = %x; want %x", c.step, height, got, bits)
			}
			for _, other := range []uint32{bits - 1, bits ^ 0x10000, at.Bits} {
				if _, err := block.Target(other); other != bits && err == api.OK {
					expectAdd(t, "other bits", x, mined(api.Header{Prev: block.Id(at), Time: at.Time + c.step, Bits: other}, true), api.ErrWork)
				}
			}
			at = grow(t, x, at, at.Time+c.step)
		}
	}
	if got := tree.New(genesis()).Expected(noHash()); got != 0 {
		t.Errorf("Expected of no header = %x", got)
	}
}

// TestP15_1ExpectedBack: the time of the last of eight headers may be before that of the first one.
func TestP15_1ExpectedBack(t *testing.T) {
	x := tree.New(genesis())
	first := growAll(t, x, genesis(), spaced(1000, 700, 7)...)
	// The header 8 is far ahead of its time; those after it aren't.
	second := growAll(t, x, first[6], 4000000000, 7000, 7100, 7200, 7300, 7400, 7500, 7600)
	last := block.Id(second[7])
	if x.Height(last) != 15 || second[7].Bits != api.PowLimit {
		t.Fatalf("height %d, bits %x", x.Height(last), second[7].Bits)
	}
	if got := x.Expected(last); got != 0x201fffff {
		t.Errorf("Expected = %x; want that of the least span", got)
	}
	third := growAll(t, x, second[7], 8000, 8001, 8002, 8003, 8004, 8005, 8006, 8007+19200)
	if got, want := x.Expected(block.Id(third[7])), uint32(0x207ffffc); got != want {
		t.Errorf("Expected = %x; want %x", got, want)
	}
}

// TestP15_1ExpectedBranch: each branch has its own bits.
func TestP15_1ExpectedBranch(t *testing.T) {
	x := tree.New(genesis())
	trunk := growAll(t, x, genesis(), spaced(1000, 10, 5)...)
	fast := growAll(t, x, trunk[4], spaced(2000, 10, 2)...)
	slow := growAll(t, x, trunk[4], spaced(2000, 2000, 2)...)
	if got := x.Expected(block.Id(fast[1])); got != 0x201fffff {
		t.Errorf("Expected of the fast branch = %x", got)
	}
	if got, want := x.Expected(block.Id(slow[1])), block.Next(api.PowLimit, 5000); got != want {
		t.Errorf("Expected of the slow branch = %x; want %x", got, want)
	}
	if got := x.Expected(block.Id(slow[0])); got != api.PowLimit {
		t.Errorf("Expected at height 7 = %x", got)
	}
}
