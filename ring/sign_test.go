package ring_test

import (
	"bytes"
	"slices"
	"strings"
	"testing"

	"strongbox/api"
	"strongbox/check"
	"strongbox/curve"
	"strongbox/ring"
)

// A Ring is a Signer.
var _ check.Signer = (*ring.Ring)(nil)

// expectSign holds a signature against that of a plain ring, and tells whether there is one.
func expectSign(t *testing.T, what string, p *pair, pub []byte, want bool) {
	t.Helper()
	digest := api.Hash{1, 2, 3}
	sig, has := p.plain.sign(pub, digest)
	got, ok := p.Sign(pub, digest)
	if !bytes.Equal(got, sig) || ok != want || has != want {
		t.Errorf("%s: Sign = %x, %t; want %x, %t (the plain ring: %t)", what, got, ok, sig, want, has)
	}
	if ok && !curve.Verify(pub, digest, got) {
		t.Errorf("%s: Sign = %x, which is no signature", what, got)
	}
}

func (p *pair) pubAt(n, i, key int) []byte { return p.plain.descs[n].at(i).Keys[key] }

// TestP21_4Ends: only what is below the ends is signed.
func TestP21_4Ends(t *testing.T) {
	p := pairOf(t, 3, wide("wpkh", private(1)), wide("pkh", private(2)))
	for i, want := range []bool{true, true, true, false, false} {
		expectSign(t, "at first", p, p.pubAt(0, i, 0), want)
		expectSign(t, "at first", p, p.pubAt(1, i, 0), want)
	}
	p.take(t, 1, api.OK)
	expectSign(t, "after Take", p, p.pubAt(1, 3, 0), true)
	expectSign(t, "after Take of another one", p, p.pubAt(0, 3, 0), false)
	p.saw(t, p.scriptAt(0, 1))
	expectSign(t, "after Saw", p, p.pubAt(0, 4, 0), true)
	expectSign(t, "after Saw", p, p.pubAt(0, 5, 0), false)
}

// TestP21_4Secrets: what has no secret at its first place may have one at a later one.
func TestP21_4Secrets(t *testing.T) {
	p := pairOf(t, 2, wide("wpkh", public(1)))
	expectSign(t, "a public one", p, p.pubAt(0, 0, 0), false)
	p.add(t, "multi(1,"+public(1)+"/0/*,"+private(2)+"/*)", api.OK)
	expectSign(t, "two public ones", p, p.pubAt(0, 0, 0), false)
	expectSign(t, "the private one", p, p.pubAt(1, 1, 1), true)
	p.add(t, "multi(1,"+private(2)+"/*,"+private(1)+"/0/1)", api.OK)
	expectSign(t, "another index of it", p, p.pubAt(0, 0, 0), false)
	expectSign(t, "this index of it", p, p.pubAt(0, 1, 0), true)
	expectSign(t, "one behind it", p, p.pubAt(1, 0, 1), true)
	p.add(t, wide("pkh", private(1)), api.OK)
	expectSign(t, "a private one behind public ones", p, p.pubAt(0, 0, 0), true)
	expectSign(t, "a private one behind public ones", p, p.pubAt(0, 1, 0), true)
	expectSign(t, "an index that no one has", p, p.pubAt(0, 2, 0), false)
}

func TestP21_4NoKeys(t *testing.T) {
	p := pairOf(t, 2, wide("wpkh", private(1)), single(5))
	pub := p.pubAt(0, 0, 0)
	odd := slices.Clone(pub)
	odd[0] ^= 1
	secret, _ := p.plain.descs[0].Secret(0, pub)
	for _, no := range [][]byte{nil, {}, {2}, pub[1:], pub[:32], append(slices.Clone(pub), 0), odd, secret[:], make([]byte, 33), p.scriptAt(0, 0), p.pubAt(1, 0, 0)} {
		expectSign(t, "no key", p, no, false)
	}
	expectSign(t, "a ring without descriptors", newPair(3), pub, false)
}

// spendable: does what check.Spend makes with a ring spend a script?
func spendable(t *testing.T, r *ring.Ring, script []byte) bool {
	t.Helper()
	out := api.TxOut{Value: 1000, Script: script}
	x := api.Tx{Version: 2, In: []api.TxIn{{Prev: api.OutPoint{Index: 7}, Seq: 5}}, Out: []api.TxOut{{Value: 900, Script: []byte{0x51}}}}
	in, ok := check.Spend(x, 0, out, r.Inner(script), r)
	x.In[0] = in
	if err := check.Input(x, 0, out); ok != (err == api.OK) {
		t.Errorf("Spend of %x: %t, but Input: error %d", script, ok, err)
	}
	return ok
}

// TestP21_4Spend: with the secrets, what each form pays to can be spent; without them it can't.
func TestP21_4Spend(t *testing.T) {
	for _, form := range []string{"pkh(", "wpkh(", "sh(wpkh(", "multi(2,", "sh(multi(2,", "wsh(multi(2,", "sh(wsh(multi(2,", "sortedmulti(2,", "sh(sortedmulti(2,", "wsh(sortedmulti(2,", "sh(wsh(sortedmulti(2,"} {
		closing := strings.Repeat(")", strings.Count(form, "("))
		hidden := form + public(1) + "/*" + closing
		shown := form + private(1) + "/*" + closing
		if strings.Contains(form, "multi") {
			hidden = form + private(3) + "/*," + public(1) + "/*," + public(2) + "/5/*" + closing
			shown = form + public(3) + "/*," + private(1) + "/*," + public(2) + "/5/*" + closing
		}
		p := pairOf(t, 2, hidden)
		if spendable(t, p.Ring, p.scriptAt(0, 1)) {
			t.Errorf("%s: without a secret, or with one of two, it can be spent", form)
		}
		// Both descriptors have the same scripts; of several keys, each has the secret of one.
		p.add(t, shown, api.OK)
		for i, want := range []bool{true, true, false} {
			if got := spendable(t, p.Ring, p.scriptAt(0, i)); got != want {
				t.Errorf("%s: index %d: %t; want %t", form, i, got, want)
			}
		}
		p.saw(t, p.scriptAt(0, 1))
		if !spendable(t, p.Ring, p.scriptAt(0, 2)) || !spendable(t, p.Ring, p.scriptAt(0, 3)) {
			t.Errorf("%s: what was seen doesn't help", form)
		}
	}
}
