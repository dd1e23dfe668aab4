package ring_test

import (
	"math"
	"math/rand"
	"slices"
	"strings"
	"testing"

	"strongbox/api"
	"strongbox/curve"
	"strongbox/desc"
	"strongbox/ring"
	"strongbox/text"
)

// single returns a descriptor without an index.
func single(n byte) string {
	pub, err := curve.Public([32]byte{31: n})
	if err != api.OK {
		panic(err)
	}
	return "pkh(" + text.Hex(pub[:]) + ")"
}

func TestP21_1Gap(t *testing.T) {
	for gap, want := range map[int]int{math.MinInt: 1, -1: 1, 0: 1, 1: 1, 2: 2, 3: 3, 99: 99, 100: 100, 101: 100, math.MaxInt: 100} {
		p := newPair(gap)
		expectRing(t, "without a descriptor", p.Ring, p.plain)
		p.add(t, wide("wpkh", public(1)), api.OK)
		if p.End(0) != want || len(p.Scripts()) != want || p.Next(0) != 0 {
			t.Errorf("New(%d): Next %d, End %d", gap, p.Next(0), p.End(0))
		}
		p.take(t, 0, api.OK)
		if p.End(0) != want+1 || p.Next(0) != 1 {
			t.Errorf("New(%d), and Take: Next %d, End %d", gap, p.Next(0), p.End(0))
		}
	}
	if ring.MaxGap != 100 || ring.MaxIndex != 5000 {
		t.Errorf("the limits")
	}
}

func TestP21_1Add(t *testing.T) {
	p := newPair(2)
	for i := range 8 {
		s := wide("wpkh", private(i))
		if i%2 == 1 {
			s = single(byte(i))
		}
		p.add(t, s, api.OK)
		p.add(t, s, api.ErrThere)
	}
	p.add(t, single(9), api.ErrSize)
	p.add(t, wide("pkh", private(0)), api.ErrSize)
	p.add(t, single(1), api.ErrThere)
}

// deepest returns a key that has no children.
func deepest() string {
	k := masterOf(1)
	for k.Depth < math.MaxUint8 {
		k, _ = k.Step(0)
	}
	return k.Text()
}

// TestP21_1AddErrors has what is no descriptor, or has nothing at 0, with room for it and without.
func TestP21_1AddErrors(t *testing.T) {
	good := wide("wpkh", private(1))
	p := pairOf(t, 3, good)
	full := pairOf(t, 1)
	for i := range byte(8) {
		full.add(t, single(i+1), api.OK)
	}
	for _, c := range []struct {
		s   string
		err api.Errno
	}{
		{"", api.ErrForm},
		{"wpkh", api.ErrForm},
		{"wpkh()", api.ErrForm},
		{good + "x", api.ErrForm},
		{good + "#", api.ErrSum},
		{good + "#00000000", api.ErrSum},
		{strings.Repeat("a", 4001), api.ErrSize},
		{strings.Repeat("a", 4000), api.ErrForm},
		{"wpkh(" + deepest() + "/*)", api.ErrNone},
		{"wpkh(" + deepest() + "/0)", api.ErrNone},
		{"multi(1," + private(1) + "/*," + deepest() + "/*)", api.ErrNone},
	} {
		p.add(t, c.s, c.err)
		full.add(t, c.s, c.err)
	}
	p.add(t, "wpkh("+deepest()+")", api.OK)
}

// TestP21_1Texts: what is written in another way is there already.
func TestP21_1Texts(t *testing.T) {
	s := "wpkh(" + private(1) + "/84'/0'/*')"
	p := pairOf(t, 1, s)
	h := strings.ReplaceAll(s, "'", "h")
	sum, _ := text.Checksum(s)
	sumH, _ := text.Checksum(h)
	for _, there := range []string{s, h, strings.ReplaceAll(s, "'", "H"), s + "#" + sum, h + "#" + sumH} {
		p.add(t, there, api.ErrThere)
	}
	if got := p.Texts(); !slices.Equal(got, []string{s + "#" + sum}) {
		t.Errorf("Texts = %q", got)
	}
	// What has the same scripts may be there beside it.
	d, _ := desc.Parse(wide("wpkh", private(1)))
	p.add(t, d.Text(), api.OK)
	p.add(t, d.Public().Text(), api.OK)
	p.add(t, wide("wpkh", public(1)), api.ErrThere)
}

func TestP21_1Take(t *testing.T) {
	p := pairOf(t, 3, wide("wpkh", private(1)), single(2), wide("sh(wpkh", private(3))+")")
	for _, n := range []int{-1, 3, 4, 8, math.MinInt, math.MaxInt} {
		p.take(t, n, api.ErrArg)
	}
	for i := range 5 {
		p.take(t, 0, api.OK)
		p.take(t, 1, api.OK)
		if p.Next(0) != i+1 || p.End(0) != i+4 || p.Next(1) != 0 || p.End(1) != 1 || p.Next(2) != 0 || p.End(2) != 3 {
			t.Fatalf("Next and End: %d, %d; %d, %d; %d, %d", p.Next(0), p.End(0), p.Next(1), p.End(1), p.Next(2), p.End(2))
		}
	}
	p.take(t, 2, api.OK)
	newPair(3).take(t, 0, api.ErrArg)
}

// TestP21_1Saw has the example of the chapter, and what doesn't increase an end.
func TestP21_1Saw(t *testing.T) {
	p := pairOf(t, 3, wide("wpkh", private(1)), single(2))
	p.take(t, 0, api.OK)
	for _, c := range []struct {
		script []byte
		want   bool
		next   int
	}{
		{p.scriptAt(0, 0), false, 1},
		{p.scriptAt(0, 4), false, 1},
		{p.scriptAt(1, 0), false, 1},
		{nil, false, 1},
		{p.scriptAt(0, 3)[1:], false, 1},
		{p.scriptAt(0, 3), true, 4},
		{p.scriptAt(0, 3), false, 4},
		{p.scriptAt(0, 1), false, 4},
		{p.scriptAt(0, 7), false, 4},
		{p.scriptAt(0, 4), true, 5},
		{p.scriptAt(0, 7), true, 8},
	} {
		if got := p.saw(t, c.script); got != c.want || p.Next(0) != c.next || p.End(0) != c.next+3 || p.Next(1) != 0 || p.End(1) != 1 {
			t.Errorf("Saw of %x = %t, Next %d, End %d; want %t, %d", c.script, got, p.Next(0), p.End(0), c.want, c.next)
		}
	}
}

// TestP21_1Shared: a script that several descriptors have is seen for each that looks so far ahead.
func TestP21_1Shared(t *testing.T) {
	p := pairOf(t, 2, wide("wpkh", public(1)), "wpkh("+private(1)+"/0/3)", wide("wpkh", private(1)), wide("pkh", private(1)))
	if p.saw(t, p.scriptAt(0, 3)) || p.Next(0) != 0 || p.Next(2) != 0 {
		t.Errorf("only the descriptor without an index has it: Next %d, %d", p.Next(0), p.Next(2))
	}
	p.take(t, 2, api.OK)
	p.take(t, 2, api.OK)
	if !p.saw(t, p.scriptAt(0, 3)) || p.Next(0) != 0 || p.Next(2) != 4 {
		t.Errorf("only the last one has it: Next %d, %d", p.Next(0), p.Next(2))
	}
	if !p.saw(t, p.scriptAt(0, 1)) || p.Next(0) != 2 || p.Next(2) != 4 {
		t.Errorf("both have it: Next %d, %d", p.Next(0), p.Next(2))
	}
	if !p.saw(t, p.scriptAt(2, 3)) || p.Next(0) != 4 || p.Next(2) != 4 || p.Next(3) != 0 {
		t.Errorf("both have it by now: Next %d, %d, %d", p.Next(0), p.Next(2), p.Next(3))
	}
	if !p.saw(t, p.scriptAt(2, 5)) || p.Next(0) != 6 || p.Next(2) != 6 {
		t.Errorf("both have it, at the same place: Next %d, %d", p.Next(0), p.Next(2))
	}
}

// toward lets a ring look ahead as far as it can from its last scripts on, until the next index of its only descriptor is this one.
func toward(t *testing.T, r *ring.Ring, next int) [][]byte {
	t.Helper()
	for r.Next(0) < next {
		all := r.Scripts()
		i := min(r.End(0), next) - 1
		if ahead := min(i+1+ring.MaxGap, ring.MaxIndex); !r.Saw(all[i]) || r.Next(0) != i+1 || r.End(0) != ahead {
			t.Fatalf("Saw of %d: Next %d, End %d; want %d", i, r.Next(0), r.End(0), ahead)
		}
	}
	return r.Scripts()
}

// TestP21_1Full: there is nothing from the index 5000 on.
func TestP21_1Full(t *testing.T) {
	r := ring.New(100)
	if _, err := r.Add("wpkh(" + public(1) + "/*)"); err != api.OK {
		t.Fatalf("error %d", err)
	}
	all := toward(t, r, 4899)
	if len(all) != 4999 || !r.Saw(all[4899]) || r.End(0) != 5000 || r.Next(0) != 4900 {
		t.Fatalf("Next %d, End %d", r.Next(0), r.End(0))
	}
	all = r.Scripts()
	if r.Saw(all[4990]) || r.End(0) != 5000 || r.Next(0) != 4991 {
		t.Errorf("Saw of 4990: Next %d, End %d", r.Next(0), r.End(0))
	}
	if p, s, err := r.Take(0); p.Index != 4991 || string(s) != string(all[4991]) || err != api.OK || r.End(0) != 5000 {
		t.Errorf("Take of 4991 = %v, %x, error %d", p, s, err)
	}
	if r.Saw(all[4998]) || r.Next(0) != 4999 {
		t.Errorf("Saw of 4998: Next %d", r.Next(0))
	}
	if p, s, err := r.Take(0); p.Index != 4999 || string(s) != string(all[4999]) || err != api.OK || r.Next(0) != 5000 || r.End(0) != 5000 {
		t.Errorf("Take of 4999 = %v, %x, error %d", p, s, err)
	}
	was := r.Clone()
	for range 3 {
		if p, s, err := r.Take(0); p != (ring.Place{}) || s != nil || err != api.ErrFull || !r.Same(was) {
			t.Errorf("Take of 5000 = %v, %x, error %d", p, s, err)
		}
	}
	if r.Saw(all[4999]) || r.Next(0) != 5000 || len(r.Scripts()) != 5000 {
		t.Errorf("Saw of 4999: Next %d", r.Next(0))
	}
}

// TestP21_2Find: with more of an earlier descriptor, the first place of a script changes.
func TestP21_2Find(t *testing.T) {
	p := pairOf(t, 1, wide("wpkh", public(1)), wide("pkh", public(1)), wide("wpkh", private(1)), wide("pkh", private(1)))
	for range 4 {
		p.take(t, 3, api.OK)
		p.take(t, 2, api.OK)
	}
	at := func(n, i int) ring.Place { return ring.Place{Desc: n, Index: uint32(i)} }
	if got, _ := p.Find(p.scriptAt(0, 2)); got != at(2, 2) {
		t.Errorf("Find = %v", got)
	}
	for range 3 {
		p.take(t, 1, api.OK)
		p.take(t, 0, api.OK)
	}
	if got, _ := p.Find(p.scriptAt(0, 2)); got != at(0, 2) {
		t.Errorf("Find = %v", got)
	}
	if got, _ := p.Find(p.scriptAt(3, 4)); got != at(3, 4) {
		t.Errorf("Find = %v", got)
	}
	if got := p.Scripts(); len(got) != 4+4+5+5 {
		t.Errorf("%d scripts", len(got))
	}
}

// TestP21_2Forms: descriptors of each form have their scripts, and what the hashes of these refer to.
func TestP21_2Forms(t *testing.T) {
	for form, inner := range map[string]int{"pkh(": 1, "wpkh(": 1, "sh(wpkh(": 2, "multi(2,": 0, "sh(multi(2,": 1, "wsh(multi(2,": 1, "sh(wsh(multi(2,": 2, "sortedmulti(2,": 0, "sh(wsh(sortedmulti(2,": 2} {
		s := form + private(1) + "/*"
		if strings.Contains(form, "multi") {
			s += "," + public(2) + "/1/*," + private(3) + "/7'/8"
		}
		p := pairOf(t, 2, s+strings.Repeat(")", strings.Count(form, "(")))
		s2 := p.take(t, 0, api.OK)
		if got := p.Inner(s2); len(got) != inner {
			t.Errorf("%s: Inner = %x", form, got)
		}
		if got := p.Inner(s2[1:]); got != nil {
			t.Errorf("%s: Inner of no script = %x", form, got)
		}
	}
}

// crowd returns descriptors that share scripts.
func crowd() []string {
	return []string{
		wide("wpkh", public(1)),
		"wpkh(" + private(1) + "/0/6)",
		wide("wpkh", private(1)),
		"wpkh(" + public(1) + "/0/1)",
		"wsh(sortedmulti(1," + private(1) + "/*," + public(2) + "/*))",
		"wsh(sortedmulti(1," + public(2) + "/*," + private(1) + "/*))",
		"wpkh(" + private(1) + "/*')",
		"pkh(" + public(2) + ")",
	}
}

// TestP21_3Random: whatever is taken and seen, a ring is the same as a plain one, and has no more than the least set.
func TestP21_3Random(t *testing.T) {
	texts := crowd()
	for seed := range int64(4) {
		rnd := rand.New(rand.NewSource(seed))
		p := pairOf(t, 1+rnd.Intn(4))
		for range 120 {
			n := rnd.Intn(len(texts))
			switch {
			case n >= len(p.plain.descs) || rnd.Intn(20) == 0:
				s := texts[rnd.Intn(len(texts))]
				_, err := p.plain.clone().add(s)
				p.add(t, s, err)
			case rnd.Intn(3) == 0:
				p.take(t, n, api.OK)
			default:
				p.saw(t, p.scriptAt(n, rnd.Intn(min(p.End(n)+2, 30))))
			}
		}
	}
}

// TestP21_3Least: the next index is one more than the greatest one that was taken or seen, and the end is that plus the gap.
func TestP21_3Least(t *testing.T) {
	p := pairOf(t, 20, wide("wpkh", private(1)))
	for seed := range int64(30) {
		rnd := rand.New(rand.NewSource(seed))
		gap := 1 + rnd.Intn(20)
		r := ring.New(gap)
		r.Add(p.Texts()[0])
		greatest := -1
		for r.End(0) < 40 {
			i := rnd.Intn(r.End(0) + 3)
			if rnd.Intn(4) == 0 {
				at, _, _ := r.Take(0)
				i = int(at.Index)
			} else if increased := r.Saw(p.scriptAt(0, i)); increased != (i > greatest && i <= greatest+gap) {
				t.Fatalf("Saw of %d = %t, the greatest one was %d, the gap is %d", i, increased, greatest, gap)
			}
			if i <= greatest+gap {
				greatest = max(greatest, i)
			}
			if r.Next(0) != greatest+1 || r.End(0) != greatest+1+gap || len(r.Scripts()) != r.End(0) {
				t.Fatalf("Next %d, End %d; the greatest one is %d, the gap %d", r.Next(0), r.End(0), greatest, gap)
			}
		}
	}
}

// TestP21_3Order: what is seen within the gap can be seen in any order.
func TestP21_3Order(t *testing.T) {
	p := pairOf(t, 10, wide("wpkh", private(1)), wide("pkh", private(1)))
	var scripts [][]byte
	for _, i := range []int{0, 3, 7, 9} {
		scripts = append(scripts, p.scriptAt(0, i), p.scriptAt(1, i/2))
	}
	want := p.Ring.Clone()
	for _, s := range scripts {
		want.Saw(s)
	}
	for seed := range int64(20) {
		r := p.Ring.Clone()
		rnd := rand.New(rand.NewSource(seed))
		rnd.Shuffle(len(scripts), func(i, j int) { scripts[i], scripts[j] = scripts[j], scripts[i] })
		for _, s := range scripts {
			r.Saw(s)
		}
		if !r.Same(want) || r.Next(0) != 10 || r.End(0) != 20 || r.Next(1) != 5 || r.End(1) != 15 {
			t.Fatalf("Next and End: %d, %d; %d, %d", r.Next(0), r.End(0), r.Next(1), r.End(1))
		}
	}
}
