package ring_test

import (
	"bytes"
	"math"
	"slices"
	"strconv"
	"testing"

	"strongbox/api"
	"strongbox/curve"
	"strongbox/desc"
	"strongbox/hdkey"
	"strongbox/ring"
)

// masterOf returns a master key of these tests.
func masterOf(n int) hdkey.Key {
	k, err := hdkey.Master(append(make([]byte, 30), byte(n), 21))
	if err != api.OK {
		panic(err)
	}
	return k
}

func private(n int) string { return masterOf(n).Text() }

func public(n int) string {
	k, err := masterOf(n).Public()
	if err != api.OK {
		panic(err)
	}
	return k.Text()
}

// derived is what descriptors have at their first indices, which takes long to be told anew each time.
type derived struct {
	*desc.Desc
	list []desc.Derived
}

func (d *derived) at(i int) desc.Derived {
	for len(d.list) <= i {
		x, _ := d.At(uint32(len(d.list)))
		d.list = append(d.list, x)
	}
	return d.list[i]
}

// plainRing is a ring as the document says it, with all scripts told anew by each call.
type plainRing struct {
	gap   int
	descs []*derived
	next  []int
}

func (p *plainRing) clone() *plainRing {
	return &plainRing{p.gap, slices.Clone(p.descs), slices.Clone(p.next)}
}

func (p *plainRing) texts() []string {
	var list []string
	for _, d := range p.descs {
		list = append(list, d.Text())
	}
	return list
}

func (p *plainRing) end(n int) int {
	if !p.descs[n].Ranged() {
		return 1
	}
	return min(p.next[n]+p.gap, 5000)
}

// plainPlace is a place with what is there.
type plainPlace struct {
	ring.Place
	desc.Derived
}

func (p *plainRing) places() []plainPlace {
	var list []plainPlace
	for n, d := range p.descs {
		for i := range p.end(n) {
			list = append(list, plainPlace{ring.Place{Desc: n, Index: uint32(i)}, d.at(i)})
		}
	}
	return list
}

func (p *plainRing) add(s string) (int, api.Errno) {
	d, err := desc.Parse(s)
	if err != api.OK {
		return 0, err
	}
	if _, err := d.At(0); err != api.OK {
		return 0, err
	}
	if slices.Contains(p.texts(), d.Text()) {
		return 0, api.ErrThere
	}
	if len(p.descs) == 8 {
		return 0, api.ErrSize
	}
	p.descs, p.next = append(p.descs, &derived{Desc: d}), append(p.next, 0)
	return len(p.descs) - 1, api.OK
}

func (p *plainRing) take(n int) (ring.Place, []byte, api.Errno) {
	if n < 0 || n >= len(p.descs) {
		return ring.Place{}, nil, api.ErrArg
	}
	i := p.next[n]
	if i == 5000 {
		return ring.Place{}, nil, api.ErrFull
	}
	if p.descs[n].Ranged() {
		p.next[n]++
	}
	return ring.Place{Desc: n, Index: uint32(i)}, p.descs[n].at(i).Script, api.OK
}

func (p *plainRing) saw(script []byte) bool {
	increased := false
	for _, x := range p.places() {
		n := x.Desc
		if bytes.Equal(x.Script, script) && p.descs[n].Ranged() {
			before := p.end(n)
			p.next[n] = max(p.next[n], int(x.Index)+1)
			increased = increased || p.end(n) > before
		}
	}
	return increased
}

func (p *plainRing) find(script []byte) (plainPlace, bool) {
	for _, x := range p.places() {
		if bytes.Equal(x.Script, script) {
			return x, true
		}
	}
	return plainPlace{}, false
}

func (p *plainRing) sign(pub []byte, digest api.Hash) ([]byte, bool) {
	for _, x := range p.places() {
		for _, key := range x.Keys {
			secret, ok := p.descs[x.Desc].Secret(x.Index, key)
			if bytes.Equal(key, pub) && ok {
				sig, err := curve.Sign(secret, digest)
				return sig[:], err == api.OK
			}
		}
	}
	return nil, false
}

// expectRing holds a ring against a plain one, and asks both for all that the plain one has and for these scripts.
func expectRing(t *testing.T, what string, r *ring.Ring, p *plainRing, asked ...[]byte) {
	t.Helper()
	if !slices.Equal(r.Texts(), p.texts()) {
		t.Fatalf("%s: Texts = %q; want %q", what, r.Texts(), p.texts())
	}
	for n := range p.descs {
		if r.Next(n) != p.next[n] || r.End(n) != p.end(n) {
			t.Fatalf("%s: Next and End of %d = %d, %d; want %d, %d", what, n, r.Next(n), r.End(n), p.next[n], p.end(n))
		}
	}
	for _, n := range []int{-1, len(p.descs), 8, math.MinInt, math.MaxInt} {
		if r.Next(n) != -1 || r.End(n) != -1 {
			t.Errorf("%s: Next and End of %d = %d, %d", what, n, r.Next(n), r.End(n))
		}
	}
	var scripts [][]byte
	for _, x := range p.places() {
		scripts = append(scripts, x.Script)
	}
	if !slices.EqualFunc(r.Scripts(), scripts, bytes.Equal) {
		t.Fatalf("%s: Scripts = %x; want %x", what, r.Scripts(), scripts)
	}
	for _, s := range slices.Concat(scripts, asked, [][]byte{nil, {}, {0}, {0x51}}) {
		want, has := p.find(s)
		if got, ok := r.Find(s); got != want.Place || ok != has {
			t.Errorf("%s: Find of %x = %v, %t; want %v, %t", what, s, got, ok, want.Place, has)
		}
		if got := r.Inner(s); !slices.EqualFunc(got, want.Inner, bytes.Equal) {
			t.Errorf("%s: Inner of %x = %x; want %x", what, s, got, want.Inner)
		}
	}
}

// pair is a ring and a plain one to which the same happens.
type pair struct {
	*ring.Ring
	plain *plainRing
}

func newPair(gap int) *pair {
	return &pair{ring.New(gap), &plainRing{gap: min(max(gap, 1), 100)}}
}

// pairOf returns a pair with descriptors.
func pairOf(t *testing.T, gap int, texts ...string) *pair {
	t.Helper()
	p := newPair(gap)
	for _, s := range texts {
		p.add(t, s, api.OK)
	}
	return p
}

func (p *pair) add(t *testing.T, s string, want api.Errno) {
	t.Helper()
	was := p.Ring.Clone()
	n, err := p.plain.add(s)
	if got, e := p.Add(s); got != n || e != want || err != want {
		t.Fatalf("Add of %.100q = %d, error %d; want %d, error %d (the plain ring: error %d)", s, got, e, n, want, err)
	}
	expectRing(t, "Add of "+s, p.Ring, p.plain)
	if p.Same(was) != (want != api.OK) {
		t.Errorf("Add of %.100q, error %d: Same as before: %t", s, want, p.Same(was))
	}
}

func (p *pair) take(t *testing.T, n int, want api.Errno) []byte {
	t.Helper()
	place, s, err := p.plain.take(n)
	got, script, e := p.Take(n)
	if got != place || !bytes.Equal(script, s) || e != want || err != want {
		t.Fatalf("Take of %d = %v, %x, error %d; want %v, %x, error %d", n, got, script, e, place, s, want)
	}
	expectRing(t, "Take of "+strconv.Itoa(n), p.Ring, p.plain)
	return script
}

func (p *pair) saw(t *testing.T, script []byte) bool {
	t.Helper()
	want := p.plain.saw(script)
	if got := p.Saw(script); got != want {
		t.Fatalf("Saw of %x = %t; want %t", script, got, want)
	}
	expectRing(t, "Saw", p.Ring, p.plain, script)
	return want
}

// scriptAt returns what a descriptor has at an index, whether the ring looks that far ahead or not.
func (p *pair) scriptAt(n, i int) []byte { return p.plain.descs[n].at(i).Script }

func wide(name string, k string) string { return name + "(" + k + "/0/*)" }
