package psbt

import (
	"bytes"
	"slices"

	"strongbox/api"
	"strongbox/tx"
)

// Same reports whether two packets are equal in all parts.
func Same(a, b Packet) bool {
	return tx.Same(a.Tx, b.Tx) && slices.EqualFunc(a.Ins, b.Ins, In.same)
}

func (in In) same(other In) bool {
	return in.Known == other.Known && in.Final == other.Final &&
		sameOut(in.Out, other.Out) &&
		sameLists(in.Inner, other.Inner) &&
		slices.EqualFunc(in.Sigs, other.Sigs, Sig.same) &&
		bytes.Equal(in.Script, other.Script) &&
		sameLists(in.Witness, other.Witness)
}

func (s Sig) same(other Sig) bool {
	return bytes.Equal(s.Pub, other.Pub) && bytes.Equal(s.Sig, other.Sig)
}

func sameOut(a, b api.TxOut) bool { return a.Value == b.Value && bytes.Equal(a.Script, b.Script) }

func sameLists(a, b [][]byte) bool { return slices.EqualFunc(a, b, bytes.Equal) }

func (p Packet) clone() Packet { return Packet{tx.Clone(p.Tx), copied(p.Ins, In.clone)} }

func (in In) clone() In {
	in.Out = cloneOut(in.Out)
	in.Inner = copied(in.Inner, bytes.Clone)
	in.Sigs = copied(in.Sigs, Sig.clone)
	in.Script = bytes.Clone(in.Script)
	in.Witness = copied(in.Witness, bytes.Clone)
	return in
}

func (s Sig) clone() Sig { return Sig{bytes.Clone(s.Pub), bytes.Clone(s.Sig)} }

func cloneOut(out api.TxOut) api.TxOut {
	out.Script = bytes.Clone(out.Script)
	return out
}

// copied returns a new list with a copy of each element.
func copied[T any](list []T, one func(x T) T) []T {
	out := slices.Clone(list)
	for i, x := range out {
		out[i] = one(x)
	}
	return out
}
