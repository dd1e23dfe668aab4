package fees_test

import (
	"math"
	"math/rand"
	"testing"

	"strongbox/fees"
)

// entered returns a book to which this happened.
func entered(steps ...func(b *fees.Book)) *fees.Book {
	b := fees.New()
	for _, step := range steps {
		step(b)
	}
	return b
}

func enter(n int, rate int64, height int) func(b *fees.Book) {
	return func(b *fees.Book) { b.Enter(idOf(n), rate, height) }
}

func forget(n int) func(b *fees.Book) {
	return func(b *fees.Book) { b.Forget(idOf(n)) }
}

func confirm(height, n int) func(b *fees.Book) {
	return func(b *fees.Book) { b.Block(height, idOf(n)) }
}

func expectSame(t *testing.T, what string, a, b *fees.Book, want bool) {
	t.Helper()
	if a.Same(b) != want || b.Same(a) != want {
		t.Errorf("%s: Same = %t, %t; want %t", what, a.Same(b), b.Same(a), want)
	}
}

func TestP19_4Same(t *testing.T) {
	base := entered(enter(1, 5000, 1), enter(2, 5000, 1), confirm(2, 1))
	expectSame(t, "itself", base, base, true)
	expectSame(t, "its copy", base, base.Clone(), true)
	for what, b := range map[string]*fees.Book{
		"the same steps":              entered(enter(1, 5000, 1), enter(2, 5000, 1), confirm(2, 1)),
		"another order":               entered(enter(2, 5000, 1), enter(1, 5000, 1), confirm(2, 1)),
		"other rates of their bucket": entered(enter(1, 4000, 1), enter(2, 7999, 1), confirm(2, 1)),
		"other heights, as many":      entered(enter(1, 5000, 0), enter(2, 5000, 1), confirm(1, 1)),
		"another one is confirmed":    entered(enter(3, 5000, 1), enter(2, 5000, 1), confirm(2, 3)),
		"one that is forgotten":       entered(enter(7, 9, 9), enter(1, 5000, 1), enter(2, 5000, 1), confirm(2, 1), forget(7)),
	} {
		expectSame(t, what, base, b, true)
	}
	for what, b := range map[string]*fees.Book{
		"nothing":                       fees.New(),
		"nothing was confirmed":         entered(enter(2, 5000, 1)),
		"nothing waits":                 entered(enter(1, 5000, 1), confirm(2, 1)),
		"another one waits":             entered(enter(1, 5000, 1), enter(3, 5000, 1), confirm(2, 1)),
		"one more waits":                entered(enter(1, 5000, 1), enter(2, 5000, 1), enter(3, 5000, 1), confirm(2, 1)),
		"another height":                entered(enter(1, 5000, 1), enter(2, 5000, 2), confirm(2, 1)),
		"the bucket above":              entered(enter(1, 5000, 1), enter(2, 8000, 1), confirm(2, 1)),
		"the bucket below":              entered(enter(1, 5000, 1), enter(2, 3999, 1), confirm(2, 1)),
		"it waited longer":              entered(enter(1, 5000, 0), enter(2, 5000, 1), confirm(2, 1)),
		"it was in the bucket above":    entered(enter(1, 8000, 1), enter(2, 5000, 1), confirm(2, 1)),
		"one block more":                entered(enter(1, 5000, 1), enter(2, 5000, 1), confirm(2, 1), confirm(3, 1)),
		"one block more, ahead of both": entered(enter(1, 5000, 1), enter(2, 5000, 1), enter(3, 9, 0), confirm(2, 3), confirm(2, 1)),
		"both are confirmed":            entered(enter(1, 5000, 1), enter(2, 5000, 1), confirm(2, 1), confirm(2, 2)),
	} {
		expectSame(t, what, base, b, false)
	}
}

// TestP19_4Counts: each count matters alone, whatever waits.
func TestP19_4Counts(t *testing.T) {
	base := entered(enter(1, 1000, 0))
	for bucket := range 24 {
		for blocks := 1; blocks <= 13; blocks++ {
			b := base.Clone()
			enter(2, 1000<<bucket, 0)(b)
			confirm(blocks, 2)(b)
			expectSame(t, "a count more", base, b, false)
			for range 4000 {
				b.Block(0)
			}
			expectSame(t, "the count has shrunk to nothing", base, b, true)
			other := base.Clone()
			enter(2, 1000<<bucket, 0)(other)
			confirm(blocks%13+1, 2)(other)
			again := base.Clone()
			enter(2, 1000<<bucket, 0)(again)
			confirm(blocks, 2)(again)
			expectSame(t, "it waited otherwise", other, again, false)
		}
	}
	expectSame(t, "heights at the ends", entered(enter(1, 9, math.MinInt)), entered(enter(1, 9, math.MaxInt)), false)
}

func TestP19_4Clone(t *testing.T) {
	r := rand.New(rand.NewSource(194))
	for range 20 {
		p := newPair()
		for height := range 20 {
			stir(r, p, height)
		}
		q, c := p.Clone(), p.Clone()
		expectCounts(t, "a copy", q, p.plain)
		expectSame(t, "a copy", p.Book, q, true)
		q.Enter(idOf(1000), 1, 1)
		expectSame(t, "one that waits in the copy alone", p.Book, q, false)
		q.Forget(idOf(1000))
		expectSame(t, "forgotten", p.Book, q, true)
		q.Block(21)
		expectSame(t, "a block of the copy alone", p.Book, q, false)
		expectCounts(t, "the book itself", p.Book, p.plain)
		stir(r, p, 21)
		for n := range 300 {
			c.Enter(idOf(n), 1, 1)
			q.Forget(idOf(n))
		}
		expectCounts(t, "the book itself", p.Book, p.plain)
		if q.Waits() != 0 || c.Waits() != 300 {
			t.Errorf("%d and %d wait in the copies", q.Waits(), c.Waits())
		}
	}
}

// TestP19_4CopiesGoOn: a copy answers as the book would.
func TestP19_4CopiesGoOn(t *testing.T) {
	r := rand.New(rand.NewSource(195))
	p := newPair()
	for height := range 20 {
		stir(r, p, height)
	}
	q := &pair{Book: p.Clone(), plain: p.plain}
	for height := 20; height < 40; height++ {
		stir(r, q, height)
		expectCounts(t, "a copy", q.Book, q.plain)
	}
}
