package ring_test

import (
	"bytes"
	"slices"
	"testing"

	"strongbox/api"
	"strongbox/ring"
)

// TestP21_5Clone: what happens to a ring does not happen to its copy.
func TestP21_5Clone(t *testing.T) {
	p := pairOf(t, 3, wide("wpkh", private(1)), wide("pkh", private(2)), single(3))
	p.take(t, 0, api.OK)
	q := &pair{p.Ring.Clone(), p.plain.clone()}
	untouched := &pair{p.Ring.Clone(), p.plain.clone()}
	if !p.Same(q.Ring) || !q.Same(p.Ring) || !q.Same(q.Ring) {
		t.Errorf("a copy isn't the Same")
	}
	p.add(t, wide("wpkh", private(4)), api.OK)
	q.add(t, wide("wpkh", private(5)), api.OK)
	for i := range 4 {
		p.take(t, 0, api.OK)
		q.take(t, 1, api.OK)
		q.saw(t, q.scriptAt(3, i))
		expectRing(t, "the ring", p.Ring, p.plain)
		expectRing(t, "a copy", q.Ring, q.plain)
		expectRing(t, "a copy that nothing happened to", untouched.Ring, untouched.plain, q.scriptAt(1, 4), q.scriptAt(3, 0))
	}
	expectSign(t, "the ring", p, p.pubAt(0, 6, 0), true)
	expectSign(t, "a copy", untouched, p.pubAt(0, 6, 0), false)
	expectSign(t, "a copy", untouched, p.pubAt(0, 3, 0), true)
}

func TestP21_5Same(t *testing.T) {
	a, b, c := wide("wpkh", private(1)), single(2), wide("wpkh", public(1))
	base := pairOf(t, 3, a, b)
	scripts := base.Scripts()
	base.take(t, 0, api.OK)
	twin := pairOf(t, 3, a, b)
	twin.saw(t, scripts[0])
	if !base.Same(twin.Ring) || !twin.Same(base.Ring) || !ring.New(0).Same(ring.New(1)) || !ring.New(100).Same(ring.New(101)) {
		t.Errorf("rings of the same aren't the Same")
	}
	further := pairOf(t, 3, a, b)
	further.saw(t, scripts[1])
	gap := pairOf(t, 4, a, b)
	gap.take(t, 0, api.OK)
	turned := pairOf(t, 3, b, a)
	turned.take(t, 1, api.OK)
	shown := pairOf(t, 3, c, b)
	shown.take(t, 0, api.OK)
	less := pairOf(t, 3, a)
	less.take(t, 0, api.OK)
	more := pairOf(t, 3, a, b, c)
	more.take(t, 0, api.OK)
	for i, q := range []*pair{pairOf(t, 3, a, b), further, gap, turned, shown, less, more, newPair(3)} {
		if base.Same(q.Ring) || q.Same(base.Ring) {
			t.Errorf("the ring %d is the Same", i)
		}
	}
	if ring.New(1).Same(ring.New(2)) {
		t.Errorf("another gap is the Same")
	}
}

// TestP21_5Full: rings that end at the same index may have different next ones.
func TestP21_5Full(t *testing.T) {
	r := ring.New(100)
	r.Add("wpkh(" + public(1) + "/*)")
	all := toward(t, r, 4900)
	q := r.Clone()
	if r.Saw(all[4901]) || r.End(0) != q.End(0) || r.Same(q) || q.Same(r) {
		t.Errorf("the ring is the Same")
	}
}

// spare returns bytes with spare capacity.
func spare(b []byte) []byte {
	return append(append(make([]byte, 0, len(b)+9), b...), "spare"...)[:len(b)]
}

// expectUnchanged: neither bytes nor their spare capacity changed, which are overwritten then.
func expectUnchanged(t *testing.T, given, want []byte) {
	t.Helper()
	if !bytes.Equal(given, want) || !bytes.Equal(given[:len(given)+5][len(given):], []byte("spare")) {
		t.Errorf("an argument changed")
	}
	spoil(given)
}

func spoil(b []byte) {
	for i := range b[:cap(b)] {
		b[:cap(b)][i] = 0xee
	}
}

func spoilAll(list [][]byte) {
	for _, b := range list {
		spoil(b)
	}
	clear(list[:cap(list)])
}

// TestP21_5Memory: nothing that is passed or returned shares memory with the ring or its copy.
func TestP21_5Memory(t *testing.T) {
	p := pairOf(t, 2, wide("wpkh", private(1)), "sh(wsh(multi(1,"+private(2)+"/*,"+public(3)+")))")
	q := p.Ring.Clone()
	for _, r := range []*ring.Ring{p.Ring, q} {
		for _, s := range r.Scripts() {
			given := spare(s)
			spoilAll(r.Inner(given))
			r.Find(given)
			expectUnchanged(t, given, s)
		}
		spoilAll(r.Scripts())
		clear(r.Texts())
		pub := spare(p.pubAt(0, 1, 0))
		sig, _ := r.Sign(pub, api.Hash{1, 2, 3})
		spoil(sig)
		expectUnchanged(t, pub, p.pubAt(0, 1, 0))
	}
	expectRing(t, "the ring", p.Ring, p.plain)
	expectRing(t, "its copy", q, p.plain)
	expectSign(t, "the ring", p, p.pubAt(0, 1, 0), true)
	spoil(p.take(t, 0, api.OK))
	given := spare(p.scriptAt(1, 1))
	if !p.saw(t, given) {
		t.Errorf("Saw")
	}
	expectUnchanged(t, given, p.scriptAt(1, 1))
	expectRing(t, "the ring, after Take and Saw", p.Ring, p.plain)
}

// TestP21_5Apart: no two lists of one result share memory.
func TestP21_5Apart(t *testing.T) {
	p := pairOf(t, 2, wide("wpkh", private(1)), wide("wpkh", public(1)), "sh(wsh(multi(1,"+private(2)+"/*)))")
	for _, list := range [][][]byte{p.Scripts(), p.Inner(p.scriptAt(2, 0))} {
		for i, b := range list {
			was := slices.Clone(list)
			for j := range was {
				was[j] = bytes.Clone(list[j])
			}
			spoil(b)
			for j, other := range list {
				if j != i && !bytes.Equal(other, was[j]) {
					t.Errorf("%d and %d share memory", i, j)
				}
			}
		}
	}
}
