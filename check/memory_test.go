package check_test

import (
	"bytes"
	"testing"

	"strongbox/api"
	"strongbox/check"
	"strongbox/tx"
)

// room is a Signer that hands out signatures with spare capacity, always of the same memory, and writes to what it is passed.
type room struct {
	ring
	sigs [][]byte
}

func (r *room) Sign(pub []byte, digest api.Hash) ([]byte, bool) {
	sig, ok := r.ring.Sign(pub, digest)
	for i := range pub[:cap(pub)] {
		pub[:cap(pub)][i] = 0xcc
	}
	sig = spare(sig)
	r.sigs = append(r.sigs, sig)
	return sig, ok
}

// parts returns all lists of bytes of an input.
func parts(in api.TxIn) [][]byte { return append([][]byte{in.Script}, in.Witness...) }

func spoil(list [][]byte, with byte) {
	for _, b := range list[:cap(list)] {
		for i := range b[:cap(b)] {
			b[:cap(b)][i] = with
		}
	}
}

// expectOwn: Spend changes nothing that it is passed, keeps nothing, and its results share no memory.
func expectOwn(t *testing.T, c coin, keys ring) {
	t.Helper()
	x, out, inner := roomyTx(used()), api.TxOut{Value: 5, Script: spare(c.s)}, roomy(c.inner)
	before := whole(x, out, inner)
	signer := &room{ring: keys}
	first, ok := check.Spend(x, 1, out, inner, signer)
	second, again := check.Spend(x, 1, out, inner, signer)
	if ok != again || !sameIn(first, second) {
		t.Errorf("%s: another input at the second call", c.name)
	}
	if plain, _ := check.Spend(used(), 1, api.TxOut{Value: 5, Script: c.s}, c.inner, keys); !sameIn(first, plain) {
		t.Errorf("%s: another input by a Signer that writes to what it is passed", c.name)
	}
	want := tx.Clone(api.Tx{In: []api.TxIn{second}}).In[0]
	for _, sig := range signer.sigs {
		if len(sig) > 0 && string(sig[:cap(sig)][len(sig):len(sig)+5]) != "spare" {
			t.Errorf("%s: the Signer's memory was changed", c.name)
		}
	}
	if whole(x, out, inner) != before {
		t.Errorf("%s: an argument was changed", c.name)
	}
	spoil(parts(first), 0xee)
	if first.Witness != nil {
		clear(first.Witness[:cap(first.Witness)])
	}
	if whole(x, out, inner) != before {
		t.Errorf("%s: a result shares memory with an argument", c.name)
	}
	spoil(inner, 0xdd)
	spoil([][]byte{out.Script}, 0xdd)
	spoil(signer.sigs, 0xdd)
	for _, in := range x.In {
		spoil(parts(in), 0xdd)
		clear(in.Witness)
	}
	if !sameIn(second, want) {
		t.Errorf("%s: two results share memory, or an argument was kept", c.name)
	}
	for i, b := range parts(second) {
		for j := range b[:cap(b)] {
			b[:cap(b)][j] = byte(i)
		}
	}
	for i, b := range parts(second) {
		if !bytes.Equal(b, bytes.Repeat([]byte{byte(i)}, len(b))) {
			t.Errorf("%s: two lists of a result share memory", c.name)
		}
	}
}

func TestP14_4Spend(t *testing.T) {
	for _, c := range coins() {
		expectOwn(t, c, c.have(99))
		expectOwn(t, c, nil)
		expectOwn(t, c, ring{20})
	}
	expectOwn(t, coin{s: hexed("51")}, ring{1})
	expectOwn(t, coin{s: toScript(hexed("51")), inner: [][]byte{hexed("51")}}, ring{1})
}

func TestP14_4Input(t *testing.T) {
	for _, c := range coins() {
		s, w := c.input(payment(), 1, 9, c.keys[:c.need]...)
		x, out := roomyTx(with(payment(), 1, s, w...)), api.TxOut{Value: 9, Script: spare(c.s)}
		before := whole(x, out, nil)
		outs := append(make([]api.TxOut, 0, 5), out, out, out, api.TxOut{Value: 77})[:3]
		for range 2 {
			if err := check.Input(x, 1, out); err != api.OK {
				t.Errorf("%s: error %d", c.name, err)
			}
			for i := -1; i < 4; i++ {
				check.Input(x, i, out)
			}
			check.All(x, outs...)
			check.All(x, outs[:2]...)
		}
		if whole(x, out, nil) != before || outs[:4][3].Value != 77 || !bytes.Equal(outs[1].Script, c.s) {
			t.Errorf("%s: an argument was changed", c.name)
		}
	}
}
