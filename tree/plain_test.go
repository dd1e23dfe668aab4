package tree_test

import (
	"math"
	"math/big"
	"math/rand"
	"slices"
	"testing"

	"strongbox/api"
	"strongbox/block"
	"strongbox/tree"
)

// mined returns a header with a Nonce such that it is Proved, or isn't.
func mined(h api.Header, proved bool) api.Header {
	for block.Proved(h) != proved {
		h.Nonce++
	}
	return h
}

// plainTree is a tree as the document says it: a list of headers, and which of them are banned.
type plainTree struct {
	list   []api.Header
	id     []api.Hash
	banned []bool
}

func newPlain(first api.Header) *plainTree {
	return &plainTree{list: []api.Header{first}, id: []api.Hash{block.Id(first)}, banned: []bool{false}}
}

// find returns the position of a header, or -1.
func (p *plainTree) find(id api.Hash) int {
	return slices.Index(p.id, id)
}

// way returns the positions of all headers up to this one, none for -1.
func (p *plainTree) way(i int) []int {
	if i <= 0 {
		return []int{0}[:i+1]
	}
	return append(p.way(p.find(p.list[i].Prev)), i)
}

func (p *plainTree) median(i int) uint32 {
	way := p.way(i)
	if len(way) == 0 {
		return 0
	}
	var times []uint32
	for _, j := range way[max(0, len(way)-5):] {
		times = append(times, p.list[j].Time)
	}
	slices.Sort(times)
	return []uint32{times[0], times[len(times)-1], times[len(times)/2], times[len(times)/2], times[len(times)/2]}[len(times)-1]
}

func (p *plainTree) expected(i int) uint32 {
	way := p.way(i)
	switch {
	case len(way) == 0:
		return 0
	case len(way)%8 != 0:
		return p.list[i].Bits
	}
	return block.Next(p.list[i].Bits, int64(p.list[i].Time)-int64(p.list[way[len(way)-8]].Time))
}

func (p *plainTree) work(i int) block.Number {
	sum := new(big.Int)
	for _, j := range p.way(i) {
		target, err := block.Target(p.list[j].Bits)
		if err != api.OK {
			continue
		}
		n := new(big.Int).Add(new(big.Int).SetBytes(target[:]), big.NewInt(1))
		sum.Add(sum, n.Div(new(big.Int).Lsh(big.NewInt(1), 256), n))
	}
	var w block.Number
	sum.FillBytes(w[:])
	return w
}

func (p *plainTree) add(h api.Header) api.Errno {
	i := p.find(h.Prev)
	switch {
	case p.find(block.Id(h)) >= 0:
		return api.ErrThere
	case i < 0:
		return api.ErrNone
	case h.Bits != p.expected(i), !block.Proved(h):
		return api.ErrWork
	case h.Time <= p.median(i):
		return api.ErrEarly
	}
	p.list, p.id, p.banned = append(p.list, h), append(p.id, block.Id(h)), append(p.banned, false)
	return api.OK
}

func (p *plainTree) isBanned(i int) bool {
	return slices.ContainsFunc(p.way(i), func(j int) bool { return p.banned[j] })
}

func (p *plainTree) tip() int {
	best, most := 0, p.work(0)
	for i := range p.list {
		if w := p.work(i); !p.isBanned(i) && block.Compare(w, most) > 0 {
			best, most = i, w
		}
	}
	return best
}

func (p *plainTree) ban(id api.Hash) {
	if i := p.find(id); i > 0 {
		p.banned[i] = true
	}
}

func (p *plainTree) clone() *plainTree {
	return &plainTree{slices.Clone(p.list), slices.Clone(p.id), slices.Clone(p.banned)}
}

// ids returns the Ids of headers.
func (p *plainTree) ids(way []int) []api.Hash {
	var out []api.Hash
	for _, i := range way {
		out = append(out, p.id[i])
	}
	return out
}

// expectSame holds all that a tree shows against the plain one.
func expectSame(t *testing.T, x *tree.Tree, p *plainTree) {
	t.Helper()
	if x.Count() != len(p.list) || x.Tip() != p.id[p.tip()] {
		t.Fatalf("Count %d, Tip %x; want %d, header %d", x.Count(), x.Tip(), len(p.list), p.tip())
	}
	for i, h := range p.list {
		id := p.id[i]
		if got, ok := x.Header(id); got != h || !ok {
			t.Fatalf("Header %d = %v, %v; want %v", i, got, ok, h)
		}
		expectFacts(t, x, p, id)
	}
	expectFacts(t, x, p, api.Hash{1, 2, 3})
}

// expectFacts holds what a tree tells of one header, which may not exist, against the plain one.
func expectFacts(t *testing.T, x *tree.Tree, p *plainTree, id api.Hash) {
	t.Helper()
	i := p.find(id)
	if got, want := x.Height(id), len(p.way(i))-1; got != want {
		t.Fatalf("Height of header %d = %d; want %d", i, got, want)
	}
	if got, want := x.Work(id), p.work(i); got != want {
		t.Fatalf("Work of header %d = %x; want %x", i, got, want)
	}
	if got, want := x.Expected(id), p.expected(i); got != want {
		t.Fatalf("Expected of header %d = %x; want %x", i, got, want)
	}
	if got, want := x.Median(id), p.median(i); got != want {
		t.Fatalf("Median of header %d = %d; want %d", i, got, want)
	}
	if got, want := x.Banned(id), p.isBanned(i); got != want {
		t.Fatalf("Banned of header %d = %v; want %v", i, got, want)
	}
	if got, want := x.Path(id), p.ids(p.way(i)); !slices.Equal(got, want) {
		t.Fatalf("Path of header %d = %x; want %x", i, got, want)
	}
}

// expectFork holds Fork of two headers, and At of all heights for the first of them, against the plain tree.
func expectFork(t *testing.T, x *tree.Tree, p *plainTree, a, b api.Hash) {
	t.Helper()
	one, two := p.ids(p.way(p.find(a))), p.ids(p.way(p.find(b)))
	var want api.Hash
	for _, id := range one {
		if slices.Contains(two, id) {
			want = id
		}
	}
	ok := len(one) > 0 && len(two) > 0
	if got, has := x.Fork(a, b); got != want && ok || has != ok || !ok && got != (api.Hash{}) {
		t.Fatalf("Fork(%x, %x) = %x, %v; want %x, %v", a, b, got, has, want, ok)
	}
	for _, height := range []int{math.MinInt, -8, -2, -1, len(one), len(one) + 1, len(one) + 7, math.MaxInt} {
		if got, has := x.At(a, height); has || got != (api.Hash{}) {
			t.Fatalf("At(%x, %d) = %x, %v", a, height, got, has)
		}
	}
	for height, id := range one {
		if got, has := x.At(a, height); got != id || !has {
			t.Fatalf("At(%x, %d) = %x, %v; want %x", a, height, got, has, id)
		}
	}
}

// pick returns the Id of a header of the plain tree, of a late one rather than of an early one.
func (p *plainTree) pick(r *rand.Rand) api.Hash {
	return p.id[max(r.Intn(len(p.list)), r.Intn(len(p.list)))]
}

// next returns a header that may be added to the plain tree, or has something wrong.
func (p *plainTree) next(r *rand.Rand) api.Header {
	id := p.pick(r)
	i := p.find(id)
	h := api.Header{Version: r.Int31(), Prev: id, Merkle: api.Hash{byte(r.Int())}, Bits: p.expected(i)}
	h.Time = p.median(i) + uint32(1+r.Intn(2000))
	proved := true
	switch r.Intn(20) {
	case 0:
		h.Bits ^= 1 << r.Intn(24)
	case 1:
		proved = false
	case 2:
		h.Prev[r.Intn(32)]++
	case 3:
		h.Time = p.median(i) - uint32(r.Intn(2))
	case 4:
		h.Time = p.list[i].Time + uint32(r.Intn(30000))
	case 5:
		return p.list[i]
	}
	if _, err := block.Target(h.Bits); err != api.OK || h.Bits < 0x1f080000 {
		return h
	}
	return mined(h, proved)
}

// TestP15_2Random holds a tree that grows at random against the plain one.
func TestP15_2Random(t *testing.T) {
	for seed := range int64(12) {
		r := rand.New(rand.NewSource(seed))
		first := api.Header{Version: 1, Time: 1500000000, Bits: api.PowLimit}
		x, p := tree.New(first), newPlain(first)
		for step := range 200 {
			h := p.next(r)
			if got, want := x.Add(h), p.add(h); got != want {
				t.Fatalf("seed %d, step %d: Add = %d; want %d", seed, step, got, want)
			}
			expectSame(t, x, p)
			expectFork(t, x, p, p.pick(r), p.pick(r))
		}
	}
}

// TestP15_3Random bans at random in between, and goes on with a copy, or with what it was made of.
func TestP15_3Random(t *testing.T) {
	for seed := range int64(12) {
		r := rand.New(rand.NewSource(100 + seed))
		first := api.Header{Version: 1, Time: 1500000000, Bits: api.PowLimit}
		x, p := tree.New(first), newPlain(first)
		for step := range 120 {
			h := p.next(r)
			if got, want := x.Add(h), p.add(h); got != want {
				t.Fatalf("seed %d, step %d: Add = %d; want %d", seed, step, got, want)
			}
			was, plain := x.Clone(), p.clone()
			if r.Intn(6) == 0 {
				id := p.pick(r)
				x.Ban(id)
				p.ban(id)
			}
			expectSame(t, x, p)
			expectSame(t, was, plain)
			if r.Intn(9) == 0 {
				x, p = was, plain
			}
		}
	}
}
