package tx

import (
	"slices"

	"strongbox/api"
	"strongbox/wire"
)

// second is the byte that says, behind a 0 where the number of inputs would be, that witnesses follow the outputs.
const second = 1

// Encode returns a transaction as bytes, with its witnesses if that is asked for and there are any.
func Encode(t api.Tx, witness bool) []byte {
	var w wire.Writer
	witness = witness && witnessed(t)
	w.U32(uint32(t.Version))
	if witness {
		w.Raw(0, second)
	}
	w.Size(uint64(len(t.In)))
	for _, in := range t.In {
		writeInput(&w, in)
	}
	w.Size(uint64(len(t.Out)))
	for _, out := range t.Out {
		w.U64(uint64(out.Value))
		w.Bytes(out.Script)
	}
	if witness {
		writeWitnesses(&w, t.In)
	}
	w.U32(t.Lock)
	return w.Out()
}

// witnessed: does an input have a witness item?
func witnessed(t api.Tx) bool {
	return slices.ContainsFunc(t.In, func(in api.TxIn) bool { return len(in.Witness) > 0 })
}

func writeInput(w *wire.Writer, in api.TxIn) {
	w.Raw(in.Prev.Hash[:]...)
	w.U32(in.Prev.Index)
	w.Bytes(in.Script)
	w.U32(in.Seq)
}

func writeWitnesses(w *wire.Writer, list []api.TxIn) {
	for _, in := range list {
		w.Size(uint64(len(in.Witness)))
		for _, item := range in.Witness {
			w.Bytes(item)
		}
	}
}
