package desc

import (
	"bytes"
	"slices"

	"strongbox/hash"
	"strongbox/script"
)

// The names that a descriptor consists of.
const (
	pkh         = "pkh"
	wpkh        = "wpkh"
	multi       = "multi"
	sortedMulti = "sortedmulti"
	sh          = "sh"
)

// derived returns what the descriptor has with these public keys.
func (d *Desc) derived(keys [][]byte) Derived {
	last := len(d.names) - 1
	x := d.innermost(d.names[last], keys)
	x.Keys = keys
	for _, name := range slices.Backward(d.names[:last]) {
		x.Inner = append(x.Inner, x.Script)
		x.Script = around(name, x.Script)
	}
	return x
}

// innermost returns the script that pays to the keys themselves, and the keys that it has only the hash of.
func (d *Desc) innermost(name string, keys [][]byte) Derived {
	switch name {
	case pkh:
		return Derived{Script: script.PayKey(hash.Hash160(keys[0])), Inner: [][]byte{bytes.Clone(keys[0])}}
	case wpkh:
		h := hash.Hash160(keys[0])
		return Derived{Script: program(h[:]), Inner: [][]byte{bytes.Clone(keys[0])}}
	case sortedMulti:
		keys = slices.SortedFunc(slices.Values(keys), bytes.Compare)
	}
	// What was parsed has so many keys.
	s, _ := script.PayMulti(d.m, keys...)
	return Derived{Script: s}
}

// around returns the script that pays to the hash of a script.
func around(name string, s []byte) []byte {
	if name == sh {
		return script.PayScript(hash.Hash160(s))
	}
	h := hash.Sum256(s)
	return program(h[:])
}

// program returns the witness program of a hash, which always has a size that is permitted.
func program(h []byte) []byte {
	s, _ := script.PayWitness(0, h)
	return s
}
