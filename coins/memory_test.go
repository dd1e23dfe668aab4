package coins_test

import (
	"bytes"
	"slices"
	"testing"

	"strongbox/api"
	"strongbox/coins"
)

// spare returns bytes with spare capacity.
func spare(b []byte) []byte {
	return append(append(make([]byte, 0, len(b)+9), b...), "spare"...)[:len(b)]
}

// untouched: is the spare capacity as it was?
func untouched(b []byte) bool { return string(b[:len(b)+5][len(b):]) == "spare" }

func spoil(b []byte) {
	for i := range b[:cap(b)] {
		b[:cap(b)][i] ^= 0xff
	}
}

// scripts returns all lists of bytes of a transaction.
func scripts(t api.Tx) [][]byte {
	var list [][]byte
	for _, in := range t.In {
		list = append(append(list, in.Script), in.Witness...)
	}
	for _, o := range t.Out {
		list = append(list, o.Script)
	}
	return list
}

// roomy returns a block with spare capacity everywhere.
func roomy(b api.Block) api.Block {
	b.Txs = append(make([]api.Tx, 0, len(b.Txs)+1), b.Txs...)
	for i, t := range b.Txs {
		t.In = append(make([]api.TxIn, 0, len(t.In)+1), t.In...)
		t.Out = append(make([]api.TxOut, 0, len(t.Out)+1), t.Out...)
		for j := range t.In {
			t.In[j].Script = spare(t.In[j].Script)
		}
		for j := range t.Out {
			t.Out[j].Script = spare(t.Out[j].Script)
		}
		b.Txs[i] = t
	}
	return b
}

func TestP16_5Put(t *testing.T) {
	list := append(make([]coins.Entry, 0, 4), entry(1, 5), entry(2, 6))
	for i := range list {
		list[i].Coin.Out.Script = spare([]byte{1, 2, 3})
	}
	s := coins.New()
	s.Put(list...)
	c := s.Clone()
	for i := range list {
		if !untouched(list[i].Coin.Out.Script) || !bytes.Equal(list[i].Coin.Out.Script, []byte{1, 2, 3}) || list[:4][3].Place != (api.OutPoint{}) {
			t.Errorf("Put changed its arguments")
		}
		spoil(list[i].Coin.Out.Script)
		list[i] = coins.Entry{}
	}
	for _, x := range []*coins.Set{s, c} {
		for _, e := range x.List() {
			if !bytes.Equal(e.Coin.Out.Script, []byte{1, 2, 3}) {
				t.Errorf("Put keeps its arguments")
			}
		}
	}
}

// TestP16_5Results: what Get and List return is new memory.
func TestP16_5Results(t *testing.T) {
	base := plainSet{entry(1, 5), entry(2, 6), entry(3, 7)}
	s := setOf(base...)
	c := s.Clone()
	for _, x := range []*coins.Set{s, c} {
		one, two := x.List(), x.List()
		got, _ := x.Get(place(1, 0))
		again, _ := x.Get(place(1, 0))
		for _, e := range one {
			spoil(e.Coin.Out.Script)
		}
		clear(one[:cap(one)])
		spoil(got.Out.Script)
		if !sameEntries(two, base) || !bytes.Equal(again.Out.Script, []byte{0x51}) {
			t.Errorf("two results share memory")
		}
		expectSet(t, "the set", s, base)
		expectSet(t, "its copy", c, base)
	}
}

// TestP16_5Connect: neither a block nor an undo is changed or kept, and an undo shares no memory with the set or its copies.
func TestP16_5Connect(t *testing.T) {
	s, plain, want, was := spentBlock(t)
	after := plainSet(s.List())
	s = was.Clone()
	b := roomy(plain)
	if _, err := s.Fits(b.Txs[1], 1, 0); err != api.OK {
		t.Fatalf("Fits: error %d", err)
	}
	u, err := s.Connect(b, 1, 0)
	if err != api.OK {
		t.Fatalf("Connect: error %d", err)
	}
	c := s.Clone()
	for i, x := range b.Txs {
		for j, script := range scripts(x) {
			if !untouched(script) || !bytes.Equal(script, scripts(plain.Txs[i])[j]) {
				t.Errorf("Connect changed the block")
			}
			spoil(script)
		}
	}
	for _, e := range u {
		spoil(e.Coin.Out.Script)
	}
	clear(u[:cap(u)])
	for _, x := range []*coins.Set{s, c} {
		expectSet(t, "after Connect", x, after)
	}
	expectSet(t, "the set before", was, was.List())
	for _, e := range was.List() {
		if !bytes.Equal(e.Coin.Out.Script, []byte{0x51}) {
			t.Errorf("the undo shares memory with the set")
		}
	}
	expectOwnUndo(t, s, roomy(plain), want, was)
}

// expectOwnUndo disconnects a block with an undo that has spare capacity, and spoils both.
func expectOwnUndo(t *testing.T, s *coins.Set, b api.Block, want coins.Undo, was *coins.Set) {
	t.Helper()
	u := append(make(coins.Undo, 0, len(want)+1), want...)
	for i := range u {
		u[i].Coin.Out.Script = spare(u[i].Coin.Out.Script)
	}
	before := plainSet(was.List())
	if err := s.Disconnect(b, u[1:]); err != api.ErrState {
		t.Errorf("Disconnect: error %d", err)
	}
	if err := s.Disconnect(b, u); err != api.OK {
		t.Errorf("Disconnect: error %d", err)
	}
	c := s.Clone()
	for i, e := range u {
		if !untouched(e.Coin.Out.Script) || !sameEntry(e, want[i]) {
			t.Errorf("Disconnect changed the undo")
		}
		spoil(e.Coin.Out.Script)
	}
	if last := u[:cap(u)][len(u)]; last.Place != (api.OutPoint{}) {
		t.Errorf("Disconnect wrote to the undo's spare capacity")
	}
	clear(u)
	for _, script := range slices.Concat(scripts(b.Txs[0]), scripts(b.Txs[1])) {
		if !untouched(script) {
			t.Errorf("Disconnect changed the block")
		}
		spoil(script)
	}
	expectSet(t, "after Disconnect", s, before)
	expectSet(t, "its copy", c, before)
}

// TestP16_5Copies: what happens to a set doesn't reach its copies.
func TestP16_5Copies(t *testing.T) {
	s, b, u, was := spentBlock(t)
	after := plainSet(s.List())
	before := plainSet(was.List())
	c := s.Clone()
	if err := s.Disconnect(b, u); err != api.OK {
		t.Fatalf("Disconnect: error %d", err)
	}
	expectSet(t, "the set", s, before)
	expectSet(t, "its copy", c, after)
	d := s.Clone()
	if _, err := d.Connect(b, 1, 0); err != api.OK {
		t.Fatalf("Connect: error %d", err)
	}
	expectSet(t, "the set", s, before)
	expectSet(t, "its copy", d, after)
	if _, err := s.Connect(blockOf(coinbase(1), b.Txs[1], b.Txs[1]), 1, 0); err == api.OK {
		t.Fatalf("Connect of a payment twice")
	}
	expectSet(t, "the set", s, before)
	expectSet(t, "a copy", c, after)
}
