package fees_test

import (
	"math"
	"math/rand"
	"testing"

	"strongbox/api"
	"strongbox/fees"
)

// waited counts so many transactions of a bucket that waited so many blocks, in a block of which the counts before it shrink.
type waited struct{ n, bucket, blocks int }

func bookOf(list ...waited) *pair {
	p := newPair()
	for _, w := range list {
		p.block(100, p.enterNew(w.n, 1000<<w.bucket, 100-w.blocks)...)
	}
	return p
}

// together counts in one block, so that nothing shrinks.
func together(list ...waited) *pair {
	p := newPair()
	var ids []api.Hash
	for _, w := range list {
		ids = append(ids, p.enterNew(w.n, 1000<<w.bucket, 100-w.blocks)...)
	}
	p.block(100, ids...)
	return p
}

func TestP19_2Arguments(t *testing.T) {
	for _, p := range []*pair{newPair(), together(waited{5, 5, 1})} {
		for _, x := range [][2]int{
			{0, 50}, {-1, 50}, {13, 50}, {14, 50}, {math.MinInt, 50}, {math.MaxInt, 50}, {1 << 32, 50}, {1<<32 + 1, 50},
			{1, 0}, {1, -1}, {1, 101}, {1, 102}, {1, math.MinInt}, {1, math.MaxInt}, {12, 1<<32 + 50}, {0, 0}, {13, 101},
		} {
			expectEstimate(t, "no such target or percent", p.Book, x[0], x[1], 0, api.ErrArg)
		}
	}
	for target := 1; target <= 12; target++ {
		for percent := 1; percent <= 100; percent++ {
			expectEstimate(t, "a new book", fees.New(), target, percent, 0, api.ErrNone)
			expectEstimate(t, "a book", together(waited{5, 5, 1}).Book, target, percent, 32000, api.OK)
		}
	}
}

// TestP19_2Enough: fewer than two are no estimate, and neither are two that have shrunk.
func TestP19_2Enough(t *testing.T) {
	for k := range 24 {
		rate := int64(1000) << k
		expectEstimate(t, "one", together(waited{1, k, 1}).Book, 12, 1, 0, api.ErrNone)
		expectEstimate(t, "two", together(waited{2, k, 1}).Book, 1, 100, rate, api.OK)
		p := together(waited{2, k, 1})
		p.block(101)
		expectEstimate(t, "two that have shrunk", p.Book, 12, 1, 0, api.ErrNone)
		p.block(102, p.enterNew(1, rate, 101)...)
		expectEstimate(t, "and one more", p.Book, 1, 100, rate, api.OK)
	}
}

// TestP19_2Exactly: what is left of one that was counted long ago may be just what is missing.
func TestP19_2Exactly(t *testing.T) {
	long := together(waited{1, 3, 1})
	for long.All(3) > 0 {
		long.block(101)
		p := &pair{Book: long.Clone(), plain: newPlain(), ids: 1000}
		p.block(101, p.enterNew(1, 9000, 100)...)
		p.block(101, p.enterNew(1, 5000, 100)...)
		if p.All(3)+p.All(2) >= 2000 {
			expectEstimate(t, "enough", p.Book, 1, 100, 4000, api.OK)
		} else {
			expectEstimate(t, "one too few", p.Book, 1, 1, 0, api.ErrNone)
		}
	}
}

// TestP19_2Combined: buckets with too few are combined with the next lower ones.
func TestP19_2Combined(t *testing.T) {
	for _, c := range []struct {
		what string
		p    *pair
		want int64
		err  api.Errno
	}{
		{"one and one below it", together(waited{1, 9, 1}, waited{1, 8, 1}), 1000 << 8, api.OK},
		{"one and one far below it", together(waited{1, 23, 1}, waited{1, 0, 1}), 1000, api.OK},
		{"two, and one that is left over", together(waited{2, 9, 1}, waited{1, 3, 1}), 1000 << 9, api.OK},
		{"one, two, and one that is left over", together(waited{1, 10, 1}, waited{2, 9, 1}, waited{1, 3, 1}), 1000 << 9, api.OK},
		{"three times one, and what is left over", together(waited{1, 10, 1}, waited{1, 9, 1}, waited{1, 3, 1}), 1000 << 9, api.OK},
		{"one slow one above a fast one", together(waited{1, 10, 2}, waited{1, 9, 1}), 0, api.ErrNone},
		{"a fast one above a slow one", together(waited{1, 10, 1}, waited{1, 9, 2}), 0, api.ErrNone},
		{"slow ones below", together(waited{2, 10, 1}, waited{2, 9, 2}, waited{5, 8, 1}), 1000 << 10, api.OK},
		{"slow ones above", together(waited{2, 10, 2}, waited{50, 9, 1}), 0, api.ErrNone},
		{"too few slow ones, combined with fast ones", together(waited{1, 10, 2}, waited{9, 9, 1}), 1000 << 9, api.OK},
		{"too few slow ones, left over", together(waited{2, 10, 1}, waited{1, 0, 2}), 1000 << 10, api.OK},
		{"shrunk, combined", bookOf(waited{2, 10, 1}, waited{1, 3, 1}), 1000 << 3, api.OK},
		{"shrunk, not combined", bookOf(waited{3, 10, 1}, waited{1, 3, 1}), 1000 << 10, api.OK},
		{"all buckets", together(waited{2, 23, 1}, waited{2, 22, 1}, waited{2, 1, 1}, waited{2, 0, 1}), 1000, api.OK},
		{"all but the last one", together(waited{2, 23, 1}, waited{2, 22, 1}, waited{2, 1, 1}, waited{2, 0, 3}), 2000, api.OK},
	} {
		expectEstimate(t, c.what, c.p.Book, 1, 90, c.want, c.err)
		if got, err := c.p.plain.estimate(1, 90); got != c.want || err != c.err {
			t.Errorf("%s: the plain book estimates %d, error %d", c.what, got, err)
		}
	}
}

// TestP19_2Percent: exactly so many percent are enough.
func TestP19_2Percent(t *testing.T) {
	for fast := range 21 {
		p := together(waited{fast, 4, 3}, waited{20 - fast, 4, 4})
		for percent := 1; percent <= 100; percent++ {
			want, err := int64(0), api.ErrNone
			if fast*5 >= percent {
				want, err = 16000, api.OK
			}
			expectEstimate(t, "of twenty", p.Book, 3, percent, want, err)
		}
		expectEstimate(t, "a longer target", p.Book, 4, 100, 16000, api.OK)
		expectEstimate(t, "a shorter target", p.Book, 2, 1, 0, api.ErrNone)
	}
	p := together(waited{1, 4, 1}, waited{2, 4, 2})
	expectEstimate(t, "a third", p.Book, 1, 33, 16000, api.OK)
	expectEstimate(t, "a third", p.Book, 1, 34, 0, api.ErrNone)
}

// TestP19_2Targets: each target has its own counts; what waited too long is only among all.
func TestP19_2Targets(t *testing.T) {
	for blocks := 1; blocks <= 13; blocks++ {
		p := together(waited{2, 7, blocks})
		for target := 1; target <= 12; target++ {
			want, err := int64(0), api.ErrNone
			if target >= blocks {
				want, err = 128000, api.OK
			}
			expectEstimate(t, "two", p.Book, target, 100, want, err)
			expectEstimate(t, "two", p.Book, target, 1, want, err)
		}
	}
}

// TestP19_2Unchanged: an estimate changes nothing.
func TestP19_2Unchanged(t *testing.T) {
	p := together(waited{2, 7, 1}, waited{3, 5, 2})
	p.enterNew(3, 5000, 100)
	was := p.Clone()
	for range 2 {
		expectEstimate(t, "again", p.Book, 1, 90, 128000, api.OK)
		expectEstimate(t, "again", p.Book, 2, 90, 32000, api.OK)
		expectEstimate(t, "again", p.Book, 0, 90, 0, api.ErrArg)
	}
	if !p.Same(was) {
		t.Errorf("Estimate changed the book")
	}
}

// crowd returns a book in which greater rates were more often fast.
func crowd(r *rand.Rand) *pair {
	p := newPair()
	for height := range 10 + r.Intn(30) {
		var ids []api.Hash
		for range r.Intn(40) {
			k := r.Intn(24)
			ids = append(ids, p.enterNew(1, 1000<<k+r.Int63n(1000<<k), height-r.Intn(1+(24-k)*r.Intn(3)))...)
		}
		p.block(height, ids...)
	}
	return p
}

func TestP19_2Random(t *testing.T) {
	r := rand.New(rand.NewSource(192))
	for range 200 {
		p := crowd(r)
		for target := 1; target <= 12; target++ {
			for percent := 1; percent <= 100; percent++ {
				want, err := p.plain.estimate(target, percent)
				expectEstimate(t, "random", p.Book, target, percent, want, err)
			}
		}
	}
}

// cost is an estimate, where none is greater than all.
func cost(b *fees.Book, target, percent int) int64 {
	rate, err := b.Estimate(target, percent)
	if err != api.OK {
		return math.MaxInt64
	}
	return rate
}

func TestP19_3(t *testing.T) {
	r := rand.New(rand.NewSource(193))
	for i := range 200 {
		p := crowd(r)
		if i%2 == 1 {
			stir(r, p, 50)
		}
		for target := 1; target <= 12; target++ {
			for percent := 1; percent <= 100; percent++ {
				rate := cost(p.Book, target, percent)
				if target < 12 && cost(p.Book, target+1, percent) > rate {
					t.Errorf("%d percent cost more within %d than within %d", percent, target+1, target)
				}
				if percent > 1 && cost(p.Book, target, percent-1) > rate {
					t.Errorf("within %d, %d percent cost more than %d", target, percent-1, percent)
				}
			}
		}
	}
}
