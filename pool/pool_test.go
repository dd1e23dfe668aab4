package pool_test

import (
	"bytes"
	"math"
	"slices"
	"testing"

	"strongbox/api"
	"strongbox/pool"
	"strongbox/tx"
)

func TestP18_4New(t *testing.T) {
	for _, most := range []int{math.MinInt, -1, 0, 1, 1000, math.MaxInt} {
		p := newPair(most)
		expectPool(t, "New", p.Pool, p.plain, spending(nil, api.OutPoint{}), spending(nil, api.OutPoint{Hash: api.Hash{1}}))
		if !p.Same(pool.New(max(most, 0))) || p.Same(pool.New(7)) || pool.New(7).Same(p.Pool) {
			t.Errorf("most = %d: Same", most)
		}
	}
}

// TestP18_4None asks for what doesn't wait.
func TestP18_4None(t *testing.T) {
	c, at := rich(t)
	p := newPair(1000)
	p.take(t, "one", c, spending(open(7), at[0]), api.OK)
	for _, id := range []api.Hash{{}, {1}, at[0].Hash, at[25].Hash} {
		if e, ok := p.Get(id); ok || !sameEntry(e, pool.Entry{}) {
			t.Errorf("Get of %x = %v, %v", id, e, ok)
		}
	}
	for _, place := range []api.OutPoint{{}, {Hash: api.Hash{1}}, at[1], made(p.List()[0].Tx, 0)} {
		if id, ok := p.Spender(place); ok || id != (api.Hash{}) {
			t.Errorf("Spender of %v = %x, %v", place, id, ok)
		}
	}
	if ids := p.Behind(api.Hash{1}); len(ids) != 0 {
		t.Errorf("Behind of nothing = %x", ids)
	}
	if ids := p.Behind(at[0].Hash); !slices.Equal(ids, []api.Hash{p.List()[0].Id}) {
		t.Errorf("Behind of one on the chain = %x", ids)
	}
}

// family returns seven transactions: 1 and 2 spend outputs of 0; 3 those of 1, 4 those of 1 and 2, 5 that of 4; 6 is alone.
func family(at []api.OutPoint) []api.Tx {
	list := []api.Tx{spending(open(400000, 400000), at[0])}
	list = append(list, spending(open(100000, 100000), made(list[0], 0)), spending(open(100000), made(list[0], 1)))
	list = append(list, spending(open(90000), made(list[1], 0)), spending(open(90000), made(list[1], 1), made(list[2], 0)))
	return append(list, spending(open(5000), made(list[4], 0)), spending(open(7), at[1]))
}

func TestP18_4Behind(t *testing.T) {
	c, at := rich(t)
	p := newPair(100000)
	list := family(at)
	for _, x := range list {
		p.take(t, "a family", c, x, api.OK)
	}
	for i, want := range [][]int{{1, 2, 3, 4, 5}, {3, 4, 5}, {4, 5}, {}, {5}, {}, {}} {
		var ids []api.Hash
		for _, j := range want {
			ids = append(ids, tx.Id(list[j]))
		}
		if got := p.Behind(tx.Id(list[i])); !slices.Equal(got, ids) {
			t.Errorf("Behind of %d = %x; want %x", i, got, ids)
		}
	}
}

// TestP18_4Turned: what was accepted on another chain may wait ahead of what it spends.
func TestP18_4Turned(t *testing.T) {
	c, at := rich(t)
	list := family(at)
	other := c.Clone()
	follow(t, other, other.Tip(), 100, open(1), list[:5]...)
	p := newPair(100000)
	p.take(t, "the last one", other, list[5], api.OK)
	for _, i := range []int{0, 1, 2, 3, 4} {
		p.take(t, "those ahead of it", c, list[i], api.OK)
	}
	if got := p.Behind(tx.Id(list[0])); len(got) != 5 || got[0] != tx.Id(list[5]) {
		t.Errorf("Behind = %x", got)
	}
	p.take(t, "a rival of the first one", c, spending(open(1), at[0]), api.OK)
	if p.Size() != 60+1 {
		t.Errorf("%d bytes wait", p.Size())
	}
}

func TestP18_4Same(t *testing.T) {
	c, at := rich(t)
	a, b := spending(open(7), at[0]), spending(open(7), at[1])
	of := func(most int, list ...api.Tx) *pool.Pool {
		p := pool.New(most)
		for _, x := range list {
			if err := p.Add(c, x); err != api.OK {
				t.Fatalf("error %d", err)
			}
		}
		return p
	}
	base := of(1000, a, b)
	if !base.Same(base) || !base.Same(of(1000, a, b)) || !base.Same(base.Clone()) || !base.Clone().Same(base) {
		t.Errorf("pools of the same aren't the Same")
	}
	for i, p := range []*pool.Pool{of(1000, b, a), of(1000, a), of(1000), of(1001, a, b), of(999, a, b), of(1000, a, b, spending(open(7), at[2])), of(1000, a, spending(open(8), at[1]))} {
		if base.Same(p) || p.Same(base) {
			t.Errorf("the pool %d is the Same", i)
		}
	}
	if pool.New(0).Same(pool.New(1)) || !pool.New(-7).Same(pool.New(0)) {
		t.Errorf("a negative limit doesn't count as 0")
	}
}

func TestP18_4Clone(t *testing.T) {
	c, at := rich(t)
	p := newPair(1000)
	for i := range 3 {
		p.take(t, "three", c, spending(open(7), at[i]), api.OK)
	}
	q := &pair{p.Clone(), &plainPool{p.plain.most, slices.Clone(p.plain.list)}}
	r := &pair{p.Clone(), &plainPool{p.plain.most, slices.Clone(p.plain.list)}}
	p.take(t, "one more", c, spending(open(7), at[3]), api.OK)
	q.take(t, "another one", c, spending(open(9), at[4]), api.OK)
	q.take(t, "a better one", c, spending(open(1), at[0], at[5]), api.OK)
	expectPool(t, "the pool", p.Pool, p.plain)
	expectPool(t, "a copy", q.Pool, q.plain)
	expectPool(t, "a copy that nothing happened to", r.Pool, r.plain)
	p.refresh(t, "Refresh", c)
	expectPool(t, "a copy", q.Pool, q.plain)
	if q.Same(p.Pool) || r.Same(p.Pool) {
		t.Errorf("copies are the Same")
	}
}

// spare returns bytes with spare capacity.
func spare(b []byte) []byte {
	return append(append(make([]byte, 0, len(b)+9), b...), "spare"...)[:len(b)]
}

// roomy returns a copy of a transaction with spare capacity everywhere.
func roomy(t api.Tx) api.Tx {
	t.In = append(make([]api.TxIn, 0, len(t.In)+1), t.In...)
	t.Out = append(make([]api.TxOut, 0, len(t.Out)+1), t.Out...)
	for i, in := range t.In {
		t.In[i].Script = spare(in.Script)
		t.In[i].Witness = append(make([][]byte, 0, len(in.Witness)+1), in.Witness...)
		for j, w := range in.Witness {
			t.In[i].Witness[j] = spare(w)
		}
	}
	for i, o := range t.Out {
		t.Out[i].Script = spare(o.Script)
	}
	return t
}

func bytesOf(t api.Tx) [][]byte {
	var list [][]byte
	for _, in := range t.In {
		list = append(append(list, in.Script), in.Witness...)
	}
	for _, o := range t.Out {
		list = append(list, o.Script)
	}
	return list
}

// untouched: is the spare capacity of a roomy transaction as it was?
func untouched(t api.Tx) bool {
	for _, b := range bytesOf(t) {
		if !bytes.Equal(b[:len(b)+5][len(b):], []byte("spare")) {
			return false
		}
	}
	return t.In[:cap(t.In)][len(t.In)].Script == nil && t.Out[:cap(t.Out)][len(t.Out)].Script == nil
}

// spoil overwrites all memory of a transaction.
func spoil(t api.Tx) {
	for _, b := range bytesOf(t) {
		for i := range b[:cap(b)] {
			b[:cap(b)][i] ^= 0xff
		}
	}
	for _, in := range t.In {
		clear(in.Witness[:cap(in.Witness)])
	}
	clear(t.In[:cap(t.In)])
	clear(t.Out[:cap(t.Out)])
}

// TestP18_4Memory: no transaction that is passed or returned shares memory with the pool, or with another one.
func TestP18_4Memory(t *testing.T) {
	c, at := rich(t)
	out, witness := hidden()
	first := spending([]api.TxOut{out, out, out}, at[0])
	follow(t, c, c.Tip(), 100, open(1), first)
	p := newPair(100000)
	var want []api.Tx
	for i := range uint32(3) {
		x := spending(open(7), made(first, i))
		x.In[0].Witness = witness
		want = append(want, x)
		given := roomy(x)
		p.plain.add(c, x)
		if err := p.Add(c, given); err != api.OK || !untouched(given) || !tx.Same(given, x) {
			t.Fatalf("Add: error %d, or it changed its argument", err)
		}
		spoil(given)
	}
	q := p.Clone()
	for _, x := range []*pool.Pool{p.Pool, q} {
		expectPool(t, "what was added", x, p.plain)
		for _, e := range x.List() {
			got, _ := x.Get(e.Id)
			spoil(got.Tx)
			spoil(e.Tx)
		}
		clear(x.List())
		clear(x.Behind(tx.Id(first)))
	}
	expectPool(t, "the pool", p.Pool, p.plain)
	expectPool(t, "its copy", q, p.plain)
	given := []api.Tx{roomy(want[2]), roomy(want[0])}
	p.plain.refresh(c, want[2], want[0])
	p.Refresh(c, given...)
	for _, x := range given {
		if !untouched(x) {
			t.Errorf("Refresh changed its arguments")
		}
		spoil(x)
	}
	expectPool(t, "after Refresh", p.Pool, p.plain)
}
