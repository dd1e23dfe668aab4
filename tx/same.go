package tx

import (
	"bytes"
	"slices"

	"strongbox/api"
)

// Clone returns a copy that shares no memory with t.
func Clone(t api.Tx) api.Tx {
	t.In = copied(t.In, cloneInput)
	t.Out = copied(t.Out, cloneOutput)
	return t
}

// Same: are two transactions equal?
func Same(a, b api.Tx) bool {
	return a.Version == b.Version && a.Lock == b.Lock &&
		slices.EqualFunc(a.In, b.In, sameInput) && slices.EqualFunc(a.Out, b.Out, sameOutput)
}

// copied returns a new list with a copy of each element.
func copied[T any](list []T, one func(T) T) []T {
	out := slices.Clone(list)
	for i, x := range out {
		out[i] = one(x)
	}
	return out
}

func cloneInput(in api.TxIn) api.TxIn {
	in.Script = bytes.Clone(in.Script)
	in.Witness = copied(in.Witness, bytes.Clone)
	return in
}

func cloneOutput(out api.TxOut) api.TxOut {
	out.Script = bytes.Clone(out.Script)
	return out
}

func sameInput(a, b api.TxIn) bool {
	return a.Prev == b.Prev && a.Seq == b.Seq && bytes.Equal(a.Script, b.Script) && slices.EqualFunc(a.Witness, b.Witness, bytes.Equal)
}

func sameOutput(a, b api.TxOut) bool {
	return a.Value == b.Value && bytes.Equal(a.Script, b.Script)
}
