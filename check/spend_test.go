package check_test

import (
	"math"
	"slices"
	"testing"

	"strongbox/api"
	"strongbox/check"
	"strongbox/hash"
	"strongbox/script"
	"strongbox/tx"
)

// expectMade: Spend makes this input, which may spend the output.
func expectMade(t *testing.T, name string, x api.Tx, i int, out api.TxOut, inner [][]byte, s check.Signer, want api.TxIn) {
	t.Helper()
	in, ok := check.Spend(x, i, out, inner, s)
	if !ok || !sameIn(in, want) {
		t.Errorf("%s: Spend = %x with %x, %v; want %x with %x", name, in.Script, in.Witness, ok, want.Script, want.Witness)
		return
	}
	y := tx.Clone(x)
	y.In[i] = in
	if err := check.Input(y, i, out); err != api.OK {
		t.Errorf("%s: what Spend made may not spend: error %d", name, err)
	}
}

// expectUnmade: Spend makes nothing, and returns the input as it is.
func expectUnmade(t *testing.T, name string, x api.Tx, i int, out api.TxOut, inner [][]byte, s check.Signer) {
	t.Helper()
	if in, ok := check.Spend(x, i, out, inner, s); ok || !sameIn(in, x.In[i]) {
		t.Errorf("%s: Spend = %+v, %v; want the input as it is", name, in, ok)
	}
}

// used returns a payment whose inputs have Scripts and Witnesses already.
func used() api.Tx {
	x := payment()
	for i := range x.In {
		x = with(x, i, fill(i+3, 1), fill(2, 3), nil, fill(5, byte(i)))
	}
	return x
}

// TestP14_2Coins: all that can be spent is, at any input, with all keys, with just as many as are needed, and with others among them.
func TestP14_2Coins(t *testing.T) {
	for _, c := range coins() {
		for i, x := range []api.Tx{payment(), used(), used()} {
			out := api.TxOut{Value: 1000, Script: c.s}
			for _, r := range []ring{c.have(99), append(ring{20, 21}, c.have(99)...), slices.Repeat(c.have(99), 2)} {
				want := x.In[i]
				want.Script, want.Witness = c.input(x, i, 1000, c.keys[:c.need]...)
				expectMade(t, c.name, x, i, out, c.inner, r, want)
			}
		}
	}
}

// TestP14_2FirstKeys: the signatures are those of the first m keys that the Signer has, in the order of the keys.
func TestP14_2FirstKeys(t *testing.T) {
	for _, c := range coins() {
		if c.need == 1 || len(c.keys) > 3 {
			continue
		}
		for set := range 8 {
			var r ring
			for k := 3; k >= 1; k-- {
				if set>>(k-1)&1 == 1 {
					r = append(r, k)
				}
			}
			var by []int
			for _, k := range c.keys {
				if slices.Contains(r, k) && len(by) < c.need {
					by = append(by, k)
				}
			}
			x, out := payment(), api.TxOut{Value: 5, Script: c.s}
			if len(by) < c.need {
				expectUnmade(t, c.name, x, 2, out, c.inner, r)
				continue
			}
			want := x.In[2]
			want.Script, want.Witness = c.input(x, 2, 5, by...)
			expectMade(t, c.name, x, 2, out, c.inner, r, want)
		}
	}
}

// TestP14_2Payment: for another payment it is signed otherwise, and what was signed for one may not spend for another.
func TestP14_2Payment(t *testing.T) {
	for _, c := range coins() {
		x, out := payment(), api.TxOut{Value: 5, Script: c.s}
		first, _ := check.Spend(x, 1, out, c.inner, c.have(99))
		for k, change := range []func(x *api.Tx){
			func(x *api.Tx) { x.Out[0].Value++ }, func(x *api.Tx) { x.Out[2].Script = []byte{0x52} }, func(x *api.Tx) { x.Lock++ }, func(x *api.Tx) { x.In[1].Seq++ }, func(x *api.Tx) { x.In[2].Prev.Index++ }, func(x *api.Tx) { x.In[0].Seq++ },
		} {
			y := tx.Clone(x)
			change(&y)
			second, ok := check.Spend(y, 1, out, c.inner, c.have(99))
			if !ok || second.Prev != y.In[1].Prev || second.Seq != y.In[1].Seq || equal(first.Script, second.Script) && equal(first.Witness, second.Witness) {
				t.Errorf("%s, change %d: the same input, or none", c.name, k)
			}
			y = with(y, 1, first.Script, first.Witness...)
			expectInput(t, false, y, 1, out)
			y = with(y, 1, second.Script, second.Witness...)
			expectInput(t, true, y, 1, out)
		}
		// As Witness the amount is signed.
		out.Value++
		expectInput(t, !c.witness, with(x, 1, first.Script, first.Witness...), 1, out)
	}
}

// TestP14_2Inner: what hashes refer to, among other things, several times, and in any order.
func TestP14_2Inner(t *testing.T) {
	noise := [][]byte{nil, {}, {0x51}, fill(20, 1), fill(32, 1), fill(33, 1), fill(600, 1), toKey(5), multi(1, 7), keyOf(9), keyOf(1)[:32]}
	for _, c := range coins() {
		x, out := payment(), api.TxOut{Value: 5, Script: c.s}
		want := x.In[0]
		want.Script, want.Witness = c.input(x, 0, 5, c.keys[:c.need]...)
		reversed := slices.Clone(c.inner)
		slices.Reverse(reversed)
		for _, inner := range [][][]byte{c.inner, reversed, slices.Concat(c.inner, c.inner), slices.Concat(noise, c.inner), slices.Concat(c.inner, noise), slices.Concat(noise, reversed, noise, c.inner), append(slices.Clone(c.inner), c.s)} {
			expectMade(t, c.name, x, 0, out, inner, c.have(99), want)
		}
		for k := range c.inner {
			missing := slices.Delete(slices.Clone(c.inner), k, k+1)
			expectUnmade(t, c.name, used(), 0, out, missing, c.have(99))
			expectUnmade(t, c.name, used(), 0, out, slices.Concat(noise, missing, noise), c.have(99))
			changed := slices.Clone(c.inner)
			changed[k] = append(slices.Clone(changed[k]), 0)
			expectUnmade(t, c.name, used(), 0, out, changed, c.have(99))
		}
		if len(c.inner) > 0 {
			expectUnmade(t, c.name, used(), 0, out, nil, c.have(99))
		}
	}
}

// TestP14_3Keys: without enough keys nothing is made.
func TestP14_3Keys(t *testing.T) {
	for _, c := range coins() {
		for i, x := range []api.Tx{payment(), used(), used()} {
			out := api.TxOut{Value: 5, Script: c.s}
			few := c.have(c.need - 1)
			if c.name != "" && slices.Index(c.keys[1:], c.keys[0]) >= 0 {
				// One key is there twice: it suffices, but the other one doesn't.
				few = ring{2}
			}
			for _, r := range []ring{nil, {}, few, append(ring{20, 21, 22}, few...), {16}, {16, 17, 18}} {
				expectUnmade(t, c.name, x, i, out, c.inner, r)
			}
			expectUnmade(t, c.name, x, i, out, c.inner, nil)
			expectUnmade(t, c.name, x, i, out, c.inner, (*nobody)(nil))
			expectUnmade(t, c.name, x, i, out, c.inner, liar{})
			expectUnmade(t, c.name, x, i, out, c.inner, (*broken)(nil))
		}
	}
}

// nobody has no key.
type nobody struct{}

func (*nobody) Sign(pub []byte, digest api.Hash) ([]byte, bool) { return nil, false }

// liar signs, but says that it doesn't have the key.
type liar struct{}

func (liar) Sign(pub []byte, digest api.Hash) ([]byte, bool) {
	sig, _ := ring{1, 2, 3}.Sign(pub, digest)
	return sig, false
}

// broken panics, as nil does.
type broken struct{ ring }

func (b *broken) Sign(pub []byte, digest api.Hash) ([]byte, bool) { return b.ring.Sign(pub, digest) }

// TestP14_2OtherForms: forms that Spend doesn't know, and forms in an order that the document doesn't name.
func TestP14_2OtherForms(t *testing.T) {
	key, all := toKey(1), multi(1, 1)
	witnessKey := toWitnessKey(1)
	anybody := hexed("51")
	hidden := [][]byte{
		nil, anybody, hexed("6a"), hexed("6a 01 02"), program(0, fill(2, 1)), program(0, fill(40, 1)), program(1, fill(20, 1)), program(1, fill(32, 1)), program(16, fill(40, 1)),
		join(key, []byte{0x61}), all[1:], append(pushes(keyOf(1)), 0xac), {0x01},
	}
	for _, s := range hidden {
		expectOther(t, s, nil)
		expectOther(t, toScript(s), [][]byte{s})
		expectOther(t, toWitnessScript(s), [][]byte{s})
		expectOther(t, toScript(toWitnessScript(s)), [][]byte{s, toWitnessScript(s)})
	}
	for _, s := range [][]byte{key, all, witnessKey, toWitnessScript(key), toScript(key)} {
		// ScriptHash in itself or in WitnessScript, and WitnessScript or WitnessKey in WitnessScript.
		expectOther(t, toScript(toScript(s)), [][]byte{s, toScript(s), key})
		expectOther(t, toWitnessScript(toScript(s)), [][]byte{s, toScript(s), key})
		expectOther(t, toWitnessScript(toWitnessScript(s)), [][]byte{s, toWitnessScript(s), key})
		expectOther(t, toScript(toWitnessScript(toScript(s))), [][]byte{s, toScript(s), toWitnessScript(toScript(s)), key})
	}
	expectOther(t, toWitnessScript(witnessKey), [][]byte{witnessKey})
	expectOther(t, toScript(toWitnessScript(witnessKey)), [][]byte{witnessKey, toWitnessScript(witnessKey)})
}

// expectOther: of a script nothing is made, though all keys are there.
func expectOther(t *testing.T, s []byte, inner [][]byte) {
	t.Helper()
	all := append(keysOf(1, 2, 3), inner...)
	kind, _ := script.Kind(s)
	expectUnmade(t, "form", used(), 1, api.TxOut{Value: 5, Script: s}, all, ring{1, 2, 3})
	if in, ok := check.Spend(payment(), 1, api.TxOut{Value: 5, Script: s}, all, ring{1, 2, 3}); ok {
		t.Errorf("%x, of the form %d: %x with %x", s, kind, in.Script, in.Witness)
	}
}

// TestP14_2NoBytes: scripts and keys without bytes are looked up as any other.
func TestP14_2NoBytes(t *testing.T) {
	none := hash.Hash160(nil)
	for _, s := range [][]byte{toScript(nil), toWitnessScript(nil), script.PayKey(none), program(0, none[:])} {
		expectOther(t, s, [][]byte{nil, {}})
	}
	// A key of another size than 33 bytes is none.
	for _, n := range []int{0, 1, 32, 34, 65} {
		b := fill(n, 2)
		h := hash.Hash160(b)
		for _, s := range [][]byte{script.PayKey(h), program(0, h[:])} {
			if in, ok := check.Spend(payment(), 0, api.TxOut{Script: s}, [][]byte{b}, anyKey{}); ok {
				t.Errorf("a key of %d bytes: %x with %x", n, in.Script, in.Witness)
			}
		}
	}
	b := fill(33, 2)
	h := hash.Hash160(b)
	in, ok := check.Spend(payment(), 0, api.TxOut{Script: program(0, h[:])}, [][]byte{b}, anyKey{})
	if !ok || !equal(in.Witness, [][]byte{append(fill(64, 1), 1), b}) || len(in.Script) > 0 {
		t.Errorf("a key of 33 bytes: %x with %x, %v", in.Script, in.Witness, ok)
	}
}

// anyKey signs for everybody.
type anyKey struct{}

func (anyKey) Sign(pub []byte, digest api.Hash) ([]byte, bool) { return fill(64, 1), true }

// TestP14_2LongScripts: what has more than 520 bytes is made, but may spend as Witness only.
func TestP14_2LongScripts(t *testing.T) {
	all := []int{1, 2, 3, 4, 5, 6, 7, 8, 9, 10, 11, 12, 13, 14, 15, 16}
	long := multi(16, all...)
	if len(long) != 547 {
		t.Fatalf("%d bytes", len(long))
	}
	c := coin{"Multi of 16", long, nil, long, false, all, 16}
	wide := c
	wide.name, wide.s, wide.inner, wide.witness = "WitnessScript of Multi of 16", toWitnessScript(long), [][]byte{long}, true
	for _, c := range []coin{c, wide, behind(wide), behind(c)} {
		x, out := payment(), api.TxOut{Value: 5, Script: c.s}
		in, ok := check.Spend(x, 0, out, c.inner, ring(all))
		want := x.In[0]
		want.Script, want.Witness = c.input(x, 0, 5, all...)
		if !ok || !sameIn(in, want) {
			t.Errorf("%s: another input, or none", c.name)
		}
		expectInput(t, c.name != "ScriptHash of Multi of 16", with(x, 0, in.Script, in.Witness...), 0, out)
		expectUnmade(t, c.name, x, 0, out, c.inner, ring(all[1:]))
	}
}

func TestP14_2Index(t *testing.T) {
	out := api.TxOut{Value: 5, Script: multi(1, 1)}
	for _, x := range []api.Tx{payment(), used(), {}} {
		for _, i := range []int{math.MinInt, -1, len(x.In), len(x.In) + 1, math.MaxInt} {
			if in, ok := check.Spend(x, i, out, nil, ring{1}); ok || !sameIn(in, api.TxIn{}) {
				t.Errorf("input %d: %+v, %v", i, in, ok)
			}
		}
	}
	for i := range 3 {
		if in, ok := check.Spend(used(), i, out, nil, ring{1}); !ok || in.Prev != used().In[i].Prev || in.Seq != used().In[i].Seq || len(in.Witness) > 0 {
			t.Errorf("input %d: %+v, %v", i, in, ok)
		}
	}
}

// asked is a Signer that records for which keys it was asked, and says of some that it has them.
type asked struct {
	ring
	pubs    [][]byte
	digests []api.Hash
}

func (a *asked) Sign(pub []byte, digest api.Hash) ([]byte, bool) {
	a.pubs, a.digests = append(a.pubs, pub), append(a.digests, digest)
	return a.ring.Sign(pub, digest)
}

// TestP14_2Asked: the Signer is asked for the keys in their order, until enough of them signed.
func TestP14_2Asked(t *testing.T) {
	for _, c := range []struct {
		have ring
		want []int
	}{
		{ring{1, 2, 3, 4}, []int{1, 2}}, {ring{1, 4}, []int{1, 2, 3, 4}}, {ring{3, 2}, []int{1, 2, 3}}, {ring{3, 4}, []int{1, 2, 3, 4}}, {ring{1}, []int{1, 2, 3, 4}}, {nil, []int{1, 2, 3, 4}},
	} {
		for _, s := range []coin{{s: multi(2, 1, 2, 3, 4)}, {s: toWitnessScript(multi(2, 1, 2, 3, 4)), inner: [][]byte{multi(2, 1, 2, 3, 4)}}} {
			a := &asked{ring: c.have}
			check.Spend(payment(), 0, api.TxOut{Value: 5, Script: s.s}, s.inner, a)
			if !equal(a.pubs, keysOf(c.want...)) {
				t.Errorf("with %v it was asked for %x", c.have, a.pubs)
			}
			for _, d := range a.digests {
				if d != a.digests[0] {
					t.Errorf("two digests of one script")
				}
			}
		}
	}
}

// TestP14_2Example is the chapter's own.
func TestP14_2Example(t *testing.T) {
	x := api.Tx{Version: 2, In: []api.TxIn{{}}, Out: []api.TxOut{{Value: 1}}}
	out := api.TxOut{Value: 9, Script: toWitnessKey(1)}
	in, ok := check.Spend(x, 0, out, keysOf(1), ring{1})
	if !ok || len(in.Script) > 0 || len(in.Witness) != 2 || len(in.Witness[0]) != 65 || !equal(in.Witness[1], keyOf(1)) {
		t.Errorf("%x with %x, %v", in.Script, in.Witness, ok)
	}
	x.In[0] = in
	if err := check.Input(x, 0, out); err != api.OK {
		t.Errorf("error %d", err)
	}
	out.Value++
	if err := check.Input(x, 0, out); err != api.ErrScript {
		t.Errorf("another Value: error %d", err)
	}
}
