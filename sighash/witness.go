package sighash

import (
	"strongbox/api"
	"strongbox/wire"
)

// Witness returns the digest of BIP 143, which is signed in an input with a witness.
func Witness(t api.Tx, i int, script []byte, value int64, kind byte) api.Hash {
	if !has(t.In, i) {
		return nothing()
	}
	own := t.In[i]
	prevs, seqs, outs := prevsOf(t.In, kind), seqsOf(t.In, kind), outsOf(t.Out, i, kind)
	return digest(func(w *wire.Writer) {
		w.U32(uint32(t.Version))
		w.Raw(prevs[:]...)
		w.Raw(seqs[:]...)
		writePrev(w, own)
		w.Bytes(script)
		w.U64(uint64(value))
		writeSeq(w, own)
		w.Raw(outs[:]...)
		w.U32(t.Lock)
		w.U32(uint32(kind))
	})
}

// prevsOf returns the digest of the places that all inputs name.
func prevsOf(list []api.TxIn, kind byte) api.Hash {
	if alone(kind) {
		return api.Hash{}
	}
	return digestAll(list, writePrev)
}

// seqsOf returns the digest of the Seq of all inputs.
func seqsOf(list []api.TxIn, kind byte) api.Hash {
	if alone(kind) || chosen(kind) != All {
		return api.Hash{}
	}
	return digestAll(list, writeSeq)
}

// outsOf returns the digest of the outputs that are signed.
func outsOf(list []api.TxOut, i int, kind byte) api.Hash {
	switch {
	case chosen(kind) == All:
		return digestAll(list, writeOut)
	case chosen(kind) == Single && has(list, i):
		return digestAll(list[i:i+1], writeOut)
	}
	return api.Hash{}
}

// digestAll returns the digest of all elements of a list, each written by one.
func digestAll[T any](list []T, one func(w *wire.Writer, x T)) api.Hash {
	return digest(func(w *wire.Writer) {
		for _, x := range list {
			one(w, x)
		}
	})
}

func writePrev(w *wire.Writer, in api.TxIn) {
	w.Raw(in.Prev.Hash[:]...)
	w.U32(in.Prev.Index)
}

func writeSeq(w *wire.Writer, in api.TxIn) { w.U32(in.Seq) }

func writeOut(w *wire.Writer, out api.TxOut) {
	w.U64(uint64(out.Value))
	w.Bytes(out.Script)
}
