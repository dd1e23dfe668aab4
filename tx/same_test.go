package tx_test

import (
	"bytes"
	"reflect"
	"testing"

	"strongbox/api"
	"strongbox/tx"
)

// otherParts are changes of a transaction beside its witnesses: each part of it, longer and shorter lists, and another order.
func otherParts() []func(t *api.Tx) {
	return []func(t *api.Tx){
		func(t *api.Tx) { t.Version++ },
		func(t *api.Tx) { t.Lock++ },
		func(t *api.Tx) { t.In[0].Prev.Hash[31]++ },
		func(t *api.Tx) { t.In[1].Prev.Hash[0]++ },
		func(t *api.Tx) { t.In[1].Prev.Index++ },
		func(t *api.Tx) { t.In[0].Seq++ },
		func(t *api.Tx) { t.In[1].Seq-- },
		func(t *api.Tx) { t.In[0].Script[2]++ },
		func(t *api.Tx) { t.In[0].Script = nil },
		func(t *api.Tx) { t.In[1].Script = []byte{0} },
		func(t *api.Tx) { t.In = t.In[:1] },
		func(t *api.Tx) { t.In = nil },
		func(t *api.Tx) { t.In = append(t.In, t.In[1]) },
		func(t *api.Tx) { t.In[0], t.In[1] = t.In[1], t.In[0] },
		func(t *api.Tx) { t.Out[0].Value++ },
		func(t *api.Tx) { t.Out[2].Value-- },
		func(t *api.Tx) { t.Out[0].Script[1]++ },
		func(t *api.Tx) { t.Out[0].Script = t.Out[0].Script[:1] },
		func(t *api.Tx) { t.Out[1].Script = []byte{0} },
		func(t *api.Tx) { t.Out = t.Out[:2] },
		func(t *api.Tx) { t.Out = nil },
		func(t *api.Tx) { t.Out = append(t.Out, t.Out[2]) },
		func(t *api.Tx) { t.Out[0], t.Out[1] = t.Out[1], t.Out[0] },
	}
}

// otherWitnesses are changes of its witnesses.
func otherWitnesses() []func(t *api.Tx) {
	return []func(t *api.Tx){
		func(t *api.Tx) { t.In[0].Witness = nil },
		func(t *api.Tx) { t.In[0].Witness = t.In[0].Witness[:1] },
		func(t *api.Tx) { t.In[0].Witness = t.In[0].Witness[1:] },
		func(t *api.Tx) { t.In[0].Witness = append(t.In[0].Witness, nil) },
		func(t *api.Tx) { t.In[0].Witness[0] = []byte{0} },
		func(t *api.Tx) { t.In[0].Witness[1] = []byte{2} },
		func(t *api.Tx) { t.In[0].Witness[1] = []byte{1, 0} },
		func(t *api.Tx) {
			t.In[0].Witness[0], t.In[0].Witness[1] = t.In[0].Witness[1], t.In[0].Witness[0]
		},
		func(t *api.Tx) { t.In[1].Witness = [][]byte{nil} },
		func(t *api.Tx) { t.In[0].Witness, t.In[1].Witness = nil, t.In[0].Witness },
	}
}

func TestP9_4Same(t *testing.T) {
	x := withInputs()[3]
	if !tx.Same(x, withInputs()[3]) || !tx.Same(x, x) {
		t.Fatal("equal transactions are not the same")
	}
	for i, change := range append(otherParts(), otherWitnesses()...) {
		y := withInputs()[3]
		change(&y)
		if tx.Same(x, y) || tx.Same(y, x) {
			t.Errorf("change %d: the same", i)
		}
	}
	all := withInputs()
	for i, a := range all {
		for j, b := range all {
			if tx.Same(a, b) != (i == j) {
				t.Errorf("Same of transactions %d and %d: %v", i, j, i != j)
			}
		}
	}
}

// TestP9_4NilAndEmpty: they are equal, as any list, and encoded alike.
func TestP9_4NilAndEmpty(t *testing.T) {
	none := []byte{}
	pairs := [][2]api.Tx{
		{{}, {In: []api.TxIn{}, Out: []api.TxOut{}}},
		{{In: []api.TxIn{{}}, Out: []api.TxOut{{}}}, {In: []api.TxIn{{Script: none, Witness: [][]byte{}}}, Out: []api.TxOut{{Script: none}}}},
		{{In: []api.TxIn{{Witness: [][]byte{nil, {1}}}}}, {In: []api.TxIn{{Witness: [][]byte{none, {1}}}}}},
	}
	for i, p := range pairs {
		a, b := p[0], p[1]
		if !tx.Same(a, b) || !tx.Same(b, a) || !tx.Same(tx.Clone(a), b) || !tx.Same(tx.Clone(b), a) {
			t.Errorf("pair %d: not the same", i)
		}
		for _, witness := range []bool{false, true} {
			if !bytes.Equal(tx.Encode(a, witness), tx.Encode(b, witness)) {
				t.Errorf("pair %d: encoded otherwise", i)
			}
		}
		if tx.Check(a) != tx.Check(b) || tx.Weight(a) != tx.Weight(b) || tx.Id(a) != tx.Id(b) || tx.WitnessId(a) != tx.WitnessId(b) {
			t.Errorf("pair %d: not alike", i)
		}
	}
}

// byteParts calls with each list of bytes in a transaction.
func byteParts(t api.Tx, each func(b []byte)) {
	for _, in := range t.In {
		each(in.Script)
		for _, item := range in.Witness {
			each(item)
		}
	}
	for _, out := range t.Out {
		each(out.Script)
	}
}

// scribble overwrites all memory of a transaction, spare capacity too.
func scribble(t api.Tx) {
	byteParts(t, func(b []byte) {
		for i := range b[:cap(b)] {
			b[:cap(b)][i] ^= 0x55
		}
	})
	for i := range t.In {
		w := t.In[i].Witness[:cap(t.In[i].Witness)]
		for j := range w {
			w[j] = []byte("other")
		}
	}
	for i := range t.In[:cap(t.In)] {
		t.In[:cap(t.In)][i] = api.TxIn{Seq: 99}
	}
	for i := range t.Out[:cap(t.Out)] {
		t.Out[:cap(t.Out)][i] = api.TxOut{Value: 99}
	}
}

func TestP9_4CloneMemory(t *testing.T) {
	for i, want := range withInputs() {
		x := withInputs()[i]
		y, z := tx.Clone(x), tx.Clone(x)
		if !tx.Same(y, want) {
			t.Fatalf("transaction %d: another copy: %+v", i, y)
		}
		scribble(y)
		if !tx.Same(x, want) || !tx.Same(z, want) {
			t.Errorf("transaction %d: a copy shares memory", i)
		}
		scribble(x)
		if !tx.Same(z, want) {
			t.Errorf("transaction %d: a copy shares memory with what it was made of", i)
		}
	}
}

func TestP9_4DecodeMemory(t *testing.T) {
	for i, want := range withInputs() {
		b := tx.Encode(want, true)
		given := append(bytes.Clone(b), "spare"...)
		x, err := tx.Decode(given[:len(b)])
		y, _ := tx.Decode(given[:len(b)])
		if err != api.OK || !bytes.Equal(given, append(bytes.Clone(b), "spare"...)) {
			t.Fatalf("transaction %d: error %d, or the argument was changed", i, err)
		}
		for j := range given {
			given[j] = 0xee
		}
		if !tx.Same(x, want) {
			t.Errorf("transaction %d: the argument was kept", i)
		}
		scribble(y)
		if !tx.Same(x, want) {
			t.Errorf("transaction %d: two results share memory", i)
		}
		expectOwnParts(t, x)
	}
}

// expectOwnParts: what is appended to one list, or written to it, does not show in another one.
func expectOwnParts(t *testing.T, x api.Tx) {
	t.Helper()
	var parts [][]byte
	byteParts(x, func(b []byte) { parts = append(parts, b) })
	for i, p := range parts {
		for j := range p[:cap(p)] {
			p[:cap(p)][j] = byte(i)
		}
	}
	for i, p := range parts {
		for _, b := range p {
			if b != byte(i) {
				t.Errorf("two lists share memory")
				return
			}
		}
	}
}

// TestP9_4Arguments: nothing that is passed is changed, spare capacity neither, nor kept.
func TestP9_4Arguments(t *testing.T) {
	spare := func(b []byte) []byte { return append(append(make([]byte, 0, len(b)+9), b...), "spare"...)[:len(b)] }
	x := withInputs()[3]
	for i := range x.In {
		x.In[i].Script = spare(x.In[i].Script)
		for j := range x.In[i].Witness {
			x.In[i].Witness[j] = spare(x.In[i].Witness[j])
		}
		x.In[i].Witness = append(x.In[i].Witness, []byte("spare"))[:len(x.In[i].Witness)]
	}
	for i := range x.Out {
		x.Out[i].Script = spare(x.Out[i].Script)
	}
	x.In = append(x.In, api.TxIn{Seq: 77})[:len(x.In)]
	x.Out = append(x.Out, api.TxOut{Value: 77})[:len(x.Out)]
	before := whole(x)
	first, bare := tx.Encode(x, true), tx.Encode(x, false)
	want := bytes.Clone(first)
	tx.Id(x)
	tx.WitnessId(x)
	tx.Virtual(x)
	tx.Check(x)
	tx.Final(x, 1, 1)
	tx.Coinbase(x)
	tx.Same(x, tx.Clone(x))
	if !reflect.DeepEqual(whole(x), before) {
		t.Errorf("an argument was changed")
	}
	for _, b := range [][]byte{first, bare} {
		b = b[:cap(b)]
		for i := range b {
			b[i] = 0xee
		}
	}
	if !reflect.DeepEqual(whole(x), before) || !bytes.Equal(tx.Encode(x, true), want) {
		t.Errorf("a result shares memory")
	}
}

// whole returns a copy of all memory of a transaction, with the spare capacity of its lists.
func whole(t api.Tx) []any {
	var all []any
	byteParts(t, func(b []byte) { all = append(all, bytes.Clone(b[:cap(b)])) })
	for _, in := range t.In[:cap(t.In)] {
		all = append(all, in.Prev, in.Seq, len(in.Script), len(in.Witness))
		for _, item := range in.Witness[:cap(in.Witness)] {
			all = append(all, string(item))
		}
	}
	for _, out := range t.Out[:cap(t.Out)] {
		all = append(all, out.Value, len(out.Script))
	}
	return append(all, t.Version, t.Lock)
}
