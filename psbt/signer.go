package psbt

import (
	"bytes"

	"strongbox/api"
	"strongbox/check"
)

// recorder is a Signer whose signatures are recorded: of each public key the first one.
type recorder struct {
	check.Signer
	sigs []Sig
}

func (r *recorder) Sign(pub []byte, digest api.Hash) ([]byte, bool) {
	// The Signer may write to what it is passed, and to what it returned.
	sig, ok := r.Signer.Sign(bytes.Clone(pub), digest)
	if ok {
		r.sigs = joined(r.sigs, []Sig{Sig{pub, sig}.clone()}, Sig.key)
	}
	return sig, ok
}

// signed is a Signer that has nothing but signatures.
type signed []Sig

func (s signed) Sign(pub []byte, digest api.Hash) ([]byte, bool) {
	for _, x := range s {
		if bytes.Equal(x.Pub, pub) {
			return x.Sig, true
		}
	}
	return nil, false
}
