package vm

import (
	"strongbox/api"
	"strongbox/curve"
	"strongbox/sighash"
)

// sigSize is how many bytes of a signature stand ahead of its kind.
const sigSize = 64

func (m *machine) checkOne() {
	key := m.pop()
	sig := m.pop()
	m.pushTruth(m.valid(sig, key))
}

// valid: is a signature valid with a key?
func (m *machine) valid(sig, key []byte) bool {
	if len(sig) == 0 {
		return false
	}
	insist(len(sig) == sigSize+1)
	kind := sig[sigSize]
	m.verified++
	insist(sighash.Known(kind) && m.verified <= api.MaxKeys)
	return curve.Verify(key, m.signed(kind), sig[:sigSize])
}

// signed returns the digest that signatures of a kind are for.
func (m *machine) signed(kind byte) api.Hash {
	if m.Witness {
		return sighash.Witness(m.Tx, m.Index, m.script, m.Value, kind)
	}
	return sighash.Legacy(m.Tx, m.Index, m.script, kind)
}

func (m *machine) checkMany() {
	keys := m.list(api.MaxKeys)
	m.count(len(keys))
	sigs := m.list(len(keys))
	insist(len(m.pop()) == 0)
	m.pushTruth(m.allValid(sigs, keys))
}

// list pops a number, which is at most most, and that many items.
func (m *machine) list(most int) [][]byte {
	n := m.number()
	insist(0 <= n && n <= int64(most))
	return m.take(int(n))
}

// allValid: is each signature valid with a key of its own, in the same order? Neither is looked at any more when too few keys remain.
func (m *machine) allValid(sigs, keys [][]byte) bool {
	for len(sigs) > 0 && len(sigs) <= len(keys) {
		sig, key := len(sigs)-1, len(keys)-1
		if m.valid(sigs[sig], keys[key]) {
			sigs = sigs[:sig]
		}
		keys = keys[:key]
	}
	return len(sigs) == 0
}
