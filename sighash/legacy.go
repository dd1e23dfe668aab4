package sighash

import (
	"slices"

	"strongbox/api"
	"strongbox/tx"
	"strongbox/wire"
)

// Legacy returns the digest that is signed in an input without a witness.
func Legacy(t api.Tx, i int, script []byte, kind byte) api.Hash {
	if !has(t.In, i) || chosen(kind) == Single && !has(t.Out, i) {
		return nothing()
	}
	t.In = inputs(t.In, i, script, kind)
	t.Out = outputs(t.Out, i, kind)
	return digest(func(w *wire.Writer) {
		w.Raw(tx.Encode(t, false)...)
		w.U32(uint32(kind))
	})
}

// inputs returns a new list of the inputs as they are signed.
func inputs(list []api.TxIn, i int, script []byte, kind byte) []api.TxIn {
	own := api.TxIn{Prev: list[i].Prev, Script: script, Seq: list[i].Seq}
	if alone(kind) {
		return []api.TxIn{own}
	}
	var signed []api.TxIn
	for _, in := range list {
		signed = append(signed, other(in, kind))
	}
	signed[i] = own
	return signed
}

// other returns an input as it is signed in another one.
func other(in api.TxIn, kind byte) api.TxIn {
	if chosen(kind) != All {
		return api.TxIn{Prev: in.Prev}
	}
	return api.TxIn{Prev: in.Prev, Seq: in.Seq}
}

// outputs returns the outputs as they are signed: for Single those before i are only counted.
func outputs(list []api.TxOut, i int, kind byte) []api.TxOut {
	switch chosen(kind) {
	case None:
		return nil
	case Single:
		return append(slices.Repeat([]api.TxOut{{Value: -1}}, i), list[i])
	}
	return list
}
