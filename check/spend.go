package check

import (
	"bytes"

	"strongbox/api"
	"strongbox/hash"
	"strongbox/script"
	"strongbox/sighash"
	"strongbox/tx"
)

// keySize is how many bytes a public key has.
const keySize = 33

// Signer is something that may have keys.
type Signer interface {
	Sign(pub []byte, digest api.Hash) ([]byte, bool)
}

// Spend returns input i of a transaction with what makes it spend an output, or, with false, as it is if that can't be made.
func Spend(t api.Tx, i int, out api.TxOut, inner [][]byte, s Signer) (api.TxIn, bool) {
	if !has(t, i) {
		return api.TxIn{}, false
	}
	m := maker{Signer: s, tx: t, i: i, value: out.Value, inner: inner}
	if in, ok := m.made(out.Script); ok {
		return in, true
	}
	return tx.Clone(api.Tx{In: t.In[i : i+1]}).In[0], false
}

// maker makes an input with what its Signer signs.
type maker struct {
	Signer
	tx    api.Tx
	i     int
	value int64
	inner [][]byte
}

// unmade is what a making that is abandoned panics with.
type unmade struct{}

// insist abandons the making unless something holds.
func insist(holds bool) {
	if !holds {
		panic(unmade{})
	}
}

// made returns the input for an output with this script, or false if the making is abandoned.
func (m maker) made(s []byte) (in api.TxIn, ok bool) {
	defer func() {
		if p := recover(); p != nil && p != (unmade{}) {
			panic(p)
		}
	}()
	return m.input(s), true
}

func (m maker) input(s []byte) api.TxIn {
	in := api.TxIn{Prev: m.tx.In[m.i].Prev, Seq: m.tx.In[m.i].Seq}
	var pushed [][]byte
	if kind, parts := script.Kind(s); kind == script.ScriptHash {
		s = m.find(parts[0], hash160)
		pushed = [][]byte{s}
	}
	switch kind, parts := script.Kind(s); kind {
	case script.WitnessKey:
		in.Witness = m.items(script.PayKey([shortProgram]byte(parts[0])), m.witness)
	case script.WitnessScript:
		hidden := m.find(parts[0], sum256)
		in.Witness = append(m.items(hidden, m.witness), hidden)
	default:
		pushed = append(m.items(s, m.legacy), pushed...)
	}
	for _, item := range pushed {
		in.Script = append(in.Script, script.Push(item)...)
	}
	return in
}

// items returns what makes a script succeed that hides no other one.
func (m maker) items(s []byte, digest func(s []byte) api.Hash) [][]byte {
	switch kind, parts := script.Kind(s); kind {
	case script.KeyHash:
		key := m.find(parts[0], keyHash)
		sig, ok := m.signature(key, digest(s))
		insist(ok)
		return [][]byte{sig, key}
	case script.Multi:
		return m.signatures(int(parts[0][0]), parts[1:], digest(s))
	}
	panic(unmade{})
}

// signatures returns an empty item, and n signatures by keys of the list.
func (m maker) signatures(n int, keys [][]byte, digest api.Hash) [][]byte {
	items := [][]byte{nil}
	for _, key := range keys {
		if len(items) > n {
			break
		}
		if sig, ok := m.signature(key, digest); ok {
			items = append(items, sig)
		}
	}
	insist(len(items) > n)
	return items
}

// signature returns the Signer's signature with its kind, if it has the key.
func (m maker) signature(pub []byte, digest api.Hash) ([]byte, bool) {
	sig, ok := m.ask(pub, digest)
	if !ok {
		return nil, false
	}
	return append(bytes.Clone(sig), sighash.All), true
}

// ask asks the Signer. One that panics, as nil does, counts as one that doesn't have the key: no call of Spend panics.
func (m maker) ask(pub []byte, digest api.Hash) (sig []byte, ok bool) {
	defer func() {
		if recover() != nil {
			sig, ok = nil, false
		}
	}()
	return m.Sign(bytes.Clone(pub), digest)
}

// legacy returns the digest that is signed for a script that isn't run as Witness; witness that for one that is.
func (m maker) legacy(s []byte) api.Hash { return sighash.Legacy(m.tx, m.i, s, sighash.All) }

func (m maker) witness(s []byte) api.Hash {
	return sighash.Witness(m.tx, m.i, s, m.value, sighash.All)
}

// find returns a copy of the first one of inner that has this digest.
func (m maker) find(digest []byte, of func(b []byte) []byte) []byte {
	for _, b := range m.inner {
		if bytes.Equal(of(b), digest) {
			return bytes.Clone(b)
		}
	}
	panic(unmade{})
}

func hash160(b []byte) []byte {
	h := hash.Hash160(b)
	return h[:]
}

func sum256(b []byte) []byte {
	h := hash.Sum256(b)
	return h[:]
}

// keyHash returns the digest of what can be a public key; anything else has none.
func keyHash(b []byte) []byte {
	if len(b) != keySize {
		return nil
	}
	return hash160(b)
}
