package fees_test

import (
	"math/big"
	"testing"

	"strongbox/api"
	"strongbox/fees"
)

// idOf names the transactions of these tests.
func idOf(n int) api.Hash { return api.Hash{byte(n), 7, 31: byte(n >> 8)} }

// plainWait is a transaction that waits, as it was entered.
type plainWait struct {
	rate   int64
	height int
}

// plainBook does what the document says, as plainly as it says it. Its counts are those of all at 0, and of those within t at t.
type plainBook struct {
	waits  map[api.Hash]plainWait
	counts [24][13]int64
}

func newPlain() *plainBook { return &plainBook{waits: map[api.Hash]plainWait{}} }

func (b *plainBook) enter(id api.Hash, rate int64, height int) {
	if _, ok := b.waits[id]; !ok {
		b.waits[id] = plainWait{rate, height}
	}
}

func (b *plainBook) block(height int, ids ...api.Hash) {
	for k := range b.counts {
		for t := range b.counts[k] {
			b.counts[k][t] = b.counts[k][t] * 998 / 1000
		}
	}
	for _, id := range ids {
		w, ok := b.waits[id]
		if !ok {
			continue
		}
		delete(b.waits, id)
		k := plainBucket(w.rate)
		b.counts[k][0] += 1000
		waited := new(big.Int).Sub(big.NewInt(int64(height)), big.NewInt(int64(w.height)))
		for t := int64(1); t <= 12; t++ {
			if waited.Cmp(big.NewInt(1)) < 0 || waited.Cmp(big.NewInt(t)) <= 0 {
				b.counts[k][t] += 1000
			}
		}
	}
}

// plainBucket is the greatest bucket whose rates don't begin above this one.
func plainBucket(rate int64) int {
	k := 0
	for low := int64(2000); k < 23 && rate >= low; low *= 2 {
		k++
	}
	return k
}

// plainGroup is buckets that are combined.
type plainGroup struct {
	lowest      int
	all, within int64
}

func (b *plainBook) groups(target int) []plainGroup {
	var list []plainGroup
	var g plainGroup
	for k := 23; k >= 0; k-- {
		g = plainGroup{k, g.all + b.counts[k][0], g.within + b.counts[k][target]}
		if g.all >= 2000 {
			list = append(list, g)
			g = plainGroup{}
		}
	}
	return list
}

func (b *plainBook) estimate(target, percent int) (int64, api.Errno) {
	if target < 1 || target > 12 || percent < 1 || percent > 100 {
		return 0, api.ErrArg
	}
	best := -1
	for _, g := range b.groups(target) {
		if 100*g.within < int64(percent)*g.all {
			break
		}
		best = g.lowest
	}
	if best < 0 {
		return 0, api.ErrNone
	}
	rate := int64(1000)
	for range best {
		rate *= 2
	}
	return rate, api.OK
}

// expectCounts holds all counts of a book against a plain one.
func expectCounts(t *testing.T, what string, b *fees.Book, plain *plainBook) {
	t.Helper()
	if b.Waits() != len(plain.waits) {
		t.Errorf("%s: %d wait; want %d", what, b.Waits(), len(plain.waits))
	}
	for k := range 24 {
		if got := b.All(k); got != plain.counts[k][0] {
			t.Errorf("%s: All(%d) = %d; want %d", what, k, got, plain.counts[k][0])
		}
		for target := 1; target <= 12; target++ {
			if got := b.Within(k, target); got != plain.counts[k][target] {
				t.Errorf("%s: Within(%d, %d) = %d; want %d", what, k, target, got, plain.counts[k][target])
			}
		}
	}
}

func expectEstimate(t *testing.T, what string, b *fees.Book, target, percent int, want int64, wantErr api.Errno) {
	t.Helper()
	if got, err := b.Estimate(target, percent); got != want || err != wantErr {
		t.Errorf("%s: Estimate(%d, %d) = %d, error %d; want %d, error %d", what, target, percent, got, err, want, wantErr)
	}
}

// pair is a book and a plain one to which the same happens.
type pair struct {
	*fees.Book
	plain *plainBook
	ids   int
}

func newPair() *pair { return &pair{Book: fees.New(), plain: newPlain()} }

func (p *pair) enter(id api.Hash, rate int64, height int) {
	p.Enter(id, rate, height)
	p.plain.enter(id, rate, height)
}

func (p *pair) forget(id api.Hash) {
	p.Forget(id)
	delete(p.plain.waits, id)
}

func (p *pair) block(height int, ids ...api.Hash) {
	p.Block(height, ids...)
	p.plain.block(height, ids...)
}

// enterNew enters so many transactions that did not wait yet.
func (p *pair) enterNew(n int, rate int64, height int) []api.Hash {
	var ids []api.Hash
	for range n {
		ids = append(ids, idOf(p.ids))
		p.enter(idOf(p.ids), rate, height)
		p.ids++
	}
	return ids
}
