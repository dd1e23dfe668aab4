package curve

import (
	"slices"

	"strongbox/api"
	"strongbox/hash"
)

// Sign returns the signature of a message by a key.
func Sign(key [32]byte, msg api.Hash) ([64]byte, api.Errno) {
	d, ok := readKey(key)
	if !ok {
		return [64]byte{}, api.ErrArg
	}
	// Whoever learns a signature's secret, or finds one secret in two signatures, can tell the key: so each secret is a digest of both key and message.
	seed := msg[:]
	for {
		digest := hash.Hmac512(key[:], seed)
		if secret, ok := readKey([32]byte(digest[:32])); ok {
			if sig, ok := signWith(secret, d, msg); ok {
				return sig, api.OK
			}
		}
		seed = slices.Concat(seed, []byte{0})
	}
}

// signWith returns the signature with this secret, or false if it makes none.
func signWith(secret, key scalar, msg api.Hash) ([64]byte, bool) {
	r := xScalar(total(term{secret, base}))
	s := secret.inverse().times(r.times(key).plus(readMessage(msg)))
	if r == (scalar{}) || s == (scalar{}) {
		return [64]byte{}, false
	}
	if other := s.negative(); number(other).below(number(s)) {
		s = other
	}
	first, last := r.bytes(), s.bytes()
	return [64]byte(slices.Concat(first[:], last[:])), true
}

// Verify: is the signature of this message by this public key valid?
func Verify(pub []byte, msg api.Hash, sig []byte) bool {
	p, ok := readPublic(pub)
	if !ok || len(sig) != 64 {
		return false
	}
	r, rOk := readKey([32]byte(sig[:32]))
	s, sOk := readKey([32]byte(sig[32:]))
	if !rOk || !sOk {
		return false
	}
	w := s.inverse()
	sum := total(term{readMessage(msg).times(w), base}, term{r.times(w), p})
	return !sum.isInfinity() && xScalar(sum) == r
}

// readMessage returns a message as a scalar.
func readMessage(msg api.Hash) scalar { return scalar(modulo(read(msg), order)) }

// xScalar returns the x of a point, which is not the one at infinity, as a scalar.
func xScalar(p point) scalar {
	x, _ := p.affine()
	return scalar(modulo(number(x), order))
}
