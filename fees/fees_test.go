package fees_test

import (
	"math"
	"math/rand"
	"slices"
	"testing"

	"strongbox/api"
	"strongbox/fees"
)

func TestP19_1New(t *testing.T) {
	p := newPair()
	expectCounts(t, "a new book", p.Book, p.plain)
	if fees.Buckets != 24 || fees.Targets != 12 || fees.Unit != 1000 {
		t.Errorf("Buckets, Targets, Unit = %d, %d, %d", fees.Buckets, fees.Targets, fees.Unit)
	}
}

// TestP19_1Example is the chapter's.
func TestP19_1Example(t *testing.T) {
	p := newPair()
	p.block(2, p.enterNew(3, 5000, 1)...)
	expectCounts(t, "the example", p.Book, p.plain)
	if p.All(2) != 3000 || p.Within(2, 1) != 3000 {
		t.Errorf("All = %d, Within = %d", p.All(2), p.Within(2, 1))
	}
	expectEstimate(t, "the example", p.Book, 1, 90, 4000, api.OK)
}

// TestP19_1Buckets has rates at all ends of the buckets.
func TestP19_1Buckets(t *testing.T) {
	type edge struct {
		rate   int64
		bucket int
	}
	edges := []edge{
		{math.MinInt64, 0}, {math.MinInt64 + 1, 0}, {-2000, 0}, {-1, 0}, {0, 0}, {1, 0}, {999, 0}, {1000, 0}, {1001, 0},
		{1 << 40, 23}, {1 << 62, 23}, {math.MaxInt64, 23}, {api.MaxMoney, 23}, {1000 << 24, 23}, {1000<<24 - 1, 23}, {1000 << 25, 23},
	}
	for k := 1; k <= 23; k++ {
		low := int64(1000) << k
		edges = append(edges, edge{low - 1, k - 1}, edge{low, k}, edge{low + 1, k}, edge{low + low/2, k})
	}
	for _, e := range edges {
		p := newPair()
		p.block(2, p.enterNew(1, e.rate, 1)...)
		expectCounts(t, "an edge", p.Book, p.plain)
		if p.All(e.bucket) != 1000 {
			t.Errorf("the rate %d isn't in bucket %d", e.rate, e.bucket)
		}
	}
}

// TestP19_1Waited has all numbers of blocks, and heights whose difference exceeds an int.
func TestP19_1Waited(t *testing.T) {
	type span struct{ from, to, blocks int }
	var spans []span
	for _, from := range []int{0, 1, -5, 1000, math.MinInt, math.MaxInt - 20} {
		for blocks := range 15 {
			spans = append(spans, span{from, from + blocks, max(blocks, 1)})
		}
	}
	spans = append(spans, span{5, 4, 1}, span{5, -5, 1}, span{math.MaxInt, math.MinInt, 1}, span{0, math.MinInt, 1}, span{math.MaxInt, -1, 1}, span{1, math.MinInt, 1},
		span{math.MinInt, math.MaxInt, 13}, span{-1, math.MaxInt, 13}, span{0, math.MaxInt, 13}, span{math.MinInt, 0, 13}, span{math.MinInt, 1, 13}, span{math.MinInt, -1, 13}, span{-6, 6, 12}, span{0, 1 << 31, 13}, span{0, 1 << 32, 13}, span{0, 1<<32 + 1, 13})
	for _, s := range spans {
		p := newPair()
		p.block(s.to, p.enterNew(1, 1000, s.from)...)
		expectCounts(t, "a span", p.Book, p.plain)
		for target := 1; target <= 12; target++ {
			if got := p.Within(0, target); (got == 1000) != (target >= s.blocks) || p.All(0) != 1000 {
				t.Errorf("from %d to %d: Within(0, %d) = %d, All %d", s.from, s.to, target, got, p.All(0))
			}
		}
	}
}

// TestP19_1Shrink: a block lets counts shrink before it counts, also one without transactions.
func TestP19_1Shrink(t *testing.T) {
	p := newPair()
	p.block(3, p.enterNew(1, 3000, 1)...)
	for _, want := range []int64{998, 996, 994, 992, 990, 988, 986, 984, 982, 980, 978, 976} {
		p.block(math.MinInt)
		expectCounts(t, "a block without transactions", p.Book, p.plain)
		if p.All(1) != want || p.Within(1, 2) != want || p.Within(1, 1) != 0 {
			t.Errorf("All = %d, Within = %d; want %d", p.All(1), p.Within(1, 2), want)
		}
	}
	p.block(9, p.enterNew(2, 3000, 8)...)
	if p.All(1) != 974+2000 || p.Within(1, 1) != 2000 || p.Within(1, 2) != 974+2000 {
		t.Errorf("All = %d, Within = %d, %d", p.All(1), p.Within(1, 1), p.Within(1, 2))
	}
	for range 5000 {
		p.block(1)
	}
	expectCounts(t, "after many blocks", p.Book, p.plain)
	if p.All(1) != 0 || !p.Same(fees.New()) {
		t.Errorf("All = %d after many blocks", p.All(1))
	}
}

// TestP19_1Enter: the first Enter counts, as long as it waits.
func TestP19_1Enter(t *testing.T) {
	p, id := newPair(), idOf(1)
	p.enter(id, 5000, 1)
	p.enter(id, 70000, 9)
	p.enter(id, 1, -9)
	if p.Waits() != 1 {
		t.Errorf("%d wait", p.Waits())
	}
	p.block(3, id)
	expectCounts(t, "entered three times", p.Book, p.plain)
	if p.All(2) != 1000 || p.Within(2, 1) != 0 || p.Within(2, 2) != 1000 || p.Waits() != 0 {
		t.Errorf("the first Enter doesn't count")
	}
	p.enter(id, 70000, 9)
	p.block(10, id)
	expectCounts(t, "entered anew after a block", p.Book, p.plain)
	p.enter(id, 70000, 9)
	p.forget(id)
	p.enter(id, 1000, 12)
	p.block(13, id)
	expectCounts(t, "entered anew after Forget", p.Book, p.plain)
	if p.All(6) != 998 || p.All(0) != 1000 {
		t.Errorf("All = %d, %d", p.All(6), p.All(0))
	}
}

// TestP19_1Forget has no other effect than that it doesn't wait.
func TestP19_1Forget(t *testing.T) {
	p := newPair()
	p.forget(idOf(1))
	p.block(2, p.enterNew(2, 5000, 1)...)
	ids := p.enterNew(3, 9000, 2)
	p.forget(ids[1])
	p.forget(ids[1])
	p.forget(idOf(99))
	expectCounts(t, "forgotten", p.Book, p.plain)
	if p.Waits() != 2 || p.All(2) != 2000 {
		t.Errorf("%d wait, All = %d", p.Waits(), p.All(2))
	}
	p.block(3, ids...)
	expectCounts(t, "a block that has it", p.Book, p.plain)
	if p.All(3) != 2000 || p.Waits() != 0 {
		t.Errorf("what was forgotten counts: %d", p.All(3))
	}
}

// TestP19_1Block has transactions that don't wait, and some several times.
func TestP19_1Block(t *testing.T) {
	p := newPair()
	ids := p.enterNew(4, 5000, 1)
	p.block(4, idOf(70), ids[2], ids[0], ids[2], api.Hash{}, ids[2])
	expectCounts(t, "some of a block", p.Book, p.plain)
	if p.All(2) != 2000 || p.Within(2, 3) != 2000 || p.Within(2, 2) != 0 || p.Waits() != 2 {
		t.Errorf("All = %d, Within = %d, %d wait", p.All(2), p.Within(2, 3), p.Waits())
	}
	p.block(5, ids...)
	expectCounts(t, "the others", p.Book, p.plain)
	if p.All(2) != 1996+2000 || p.Waits() != 0 {
		t.Errorf("All = %d, %d wait", p.All(2), p.Waits())
	}
	zero := newPair()
	zero.enter(api.Hash{}, 5000, 1)
	zero.block(2, api.Hash{})
	expectCounts(t, "the zero Id", zero.Book, zero.plain)
}

// TestP19_1None asks for buckets and targets that there aren't.
func TestP19_1None(t *testing.T) {
	p := newPair()
	for k := range 24 {
		p.block(2, p.enterNew(2, 1000<<k, 1)...)
	}
	expectCounts(t, "all buckets", p.Book, p.plain)
	for _, n := range []int{math.MinInt, -24, -1, 24, 25, 1 << 32, math.MaxInt} {
		if p.All(n) != 0 || p.Within(n, 1) != 0 || p.Within(n, n) != 0 {
			t.Errorf("the bucket %d has %d, %d", n, p.All(n), p.Within(n, 1))
		}
	}
	for _, n := range []int{math.MinInt, -1, 0, 13, 14, 1<<32 + 1, math.MaxInt} {
		for _, k := range []int{-1, 0, 5, 23, 24} {
			if got := p.Within(k, n); got != 0 {
				t.Errorf("Within(%d, %d) = %d", k, n, got)
			}
		}
	}
}

// TestP19_1Zero: the zero Book is a book without data, too.
func TestP19_1Zero(t *testing.T) {
	var b, c, d, e fees.Book
	if !b.Same(fees.New()) || !fees.New().Same(&b) || !b.Clone().Same(&b) || b.Waits() != 0 || b.All(0) != 0 || b.Within(0, 1) != 0 {
		t.Errorf("the zero Book has data")
	}
	expectEstimate(t, "the zero Book", &b, 1, 1, 0, api.ErrNone)
	b.Forget(idOf(1))
	c.Block(2, idOf(1))
	if !b.Same(fees.New()) || !c.Same(fees.New()) {
		t.Errorf("Forget or Block changed a book without data")
	}
	x := d.Clone()
	for _, one := range []*fees.Book{&b, &c, &d, x} {
		one.Enter(idOf(1), 5000, 1)
		one.Block(2, idOf(1))
	}
	if !b.Same(&c) || !b.Same(&d) || !b.Same(x) || b.Same(&e) || b.All(2) != 1000 {
		t.Errorf("the zero Book isn't as another one")
	}
}

// TestP19_1Arguments: the list of a block remains as it was.
func TestP19_1Arguments(t *testing.T) {
	b := fees.New()
	room := []api.Hash{idOf(3), idOf(1), idOf(3), idOf(2), idOf(9), idOf(8)}
	want := slices.Clone(room)
	for n := range 4 {
		b.Enter(idOf(n), 5000, 1)
	}
	b.Block(2, room[:4]...)
	if !slices.Equal(room, want) {
		t.Errorf("Block changed its argument")
	}
	clear(room)
	if b.All(2) != 3000 || b.Waits() != 1 {
		t.Errorf("Block keeps its argument")
	}
}

// randomRate returns rates of all buckets, and of the ends of some.
func randomRate(r *rand.Rand) int64 {
	low := int64(1000) << r.Intn(26)
	return low + []int64{-1, 0, 1, r.Int63n(low)}[r.Intn(4)]
}

// stir lets something happen to a book and a plain one.
func stir(r *rand.Rand, p *pair, height int) {
	for range r.Intn(20) {
		switch id := idOf(r.Intn(300)); r.Intn(8) {
		case 0:
			p.forget(id)
		default:
			p.enter(id, randomRate(r), height-r.Intn(3))
		}
	}
	var ids []api.Hash
	for range r.Intn(60) {
		ids = append(ids, idOf(r.Intn(300)))
	}
	p.block(height, ids...)
}

func TestP19_1Random(t *testing.T) {
	r := rand.New(rand.NewSource(191))
	for range 20 {
		p := newPair()
		for height := range 60 {
			stir(r, p, height)
			expectCounts(t, "random", p.Book, p.plain)
		}
	}
}
