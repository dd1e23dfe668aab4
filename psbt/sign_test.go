package psbt_test

import (
	"bytes"
	"math"
	"slices"
	"testing"

	"strongbox/api"
	"strongbox/check"
	"strongbox/psbt"
	"strongbox/tx"
)

// plainSign is Sign as the document says it, by what a Signer was asked.
func plainSign(p psbt.Packet, i int, s check.Signer) (psbt.Packet, int) {
	p = copyOf(p, false)
	in := &p.Ins[i]
	asked := &spy{Signer: s}
	check.Spend(p.Tx, i, in.Out, in.Inner, asked)
	added := 0
	for _, c := range asked.calls {
		had := slices.ContainsFunc(in.Sigs, func(x psbt.Sig) bool { return string(x.Pub) == c.pub })
		if c.ok && !had {
			in.Sigs = append(in.Sigs, psbt.Sig{Pub: []byte(c.pub), Sig: []byte(c.sig)})
			added++
		}
	}
	return p, added
}

// expectSign signs, and expects what the model says.
func expectSign(t *testing.T, what string, p psbt.Packet, i int, s check.Signer) psbt.Packet {
	t.Helper()
	before := text(p)
	want, added := plainSign(p, i, s)
	got, n, err := p.Sign(i, s)
	expectPacket(t, what, got, err, want, api.OK)
	if n != added {
		t.Errorf("%s: %d signatures; want %d", what, n, added)
	}
	if text(p) != before {
		t.Errorf("%s: the packet was changed", what)
	}
	return got
}

// pubs returns the keys of an input's signatures.
func pubs(in psbt.In) [][]byte {
	var list [][]byte
	for _, s := range in.Sigs {
		list = append(list, s.Pub)
	}
	return list
}

func TestP24_1Sign(t *testing.T) {
	for _, c := range coins() {
		p := knowing(c)
		for _, s := range []signer{nil, {1}, {2}, {3}, {2, 1}, {3, 1}, {3, 2, 1}, {20}} {
			once := expectSign(t, c.name, p, 1, s)
			expectSign(t, c.name+", signed already", once, 1, s)
			for _, other := range []signer{{1}, {3, 2}, {1, 2, 3}} {
				expectSign(t, c.name+", signed by another one", once, 1, other)
			}
		}
	}
}

// TestP24_1SignOrder: of many keys the first ones that the Signer has, in their order, and each one once.
func TestP24_1SignOrder(t *testing.T) {
	for _, c := range []struct {
		coin
		by   signer
		want []int
	}{
		{multi(2, 3, 1, 2), signer{1, 2, 3}, []int{3, 1}},
		{multi(2, 3, 1, 2), signer{2, 1}, []int{1, 2}},
		{multi(2, 3, 1, 2), signer{2}, []int{2}},
		{multi(3, 3, 1, 2), signer{2, 1}, []int{1, 2}},
		{multi(3, 1, 1, 2).behindScript(), signer{2, 1}, []int{1, 2}},
		{multi(2, 1, 1, 2).behindWitness(), signer{2, 1}, []int{1}},
		{multi(1, 5, 6, 7), signer{6, 7}, []int{6}},
		{multi(1, 5, 6, 7), signer{8}, nil},
		{byKey(4), signer{3, 4}, []int{4}},
		{byWitnessKey(4).behindScript(), signer{3, 4}, []int{4}},
		{byWitnessKey(4).behindScript(), signer{3}, nil},
	} {
		got, n, err := knowing(c.coin).Sign(1, c.by)
		if err != api.OK || n != len(c.want) || !slices.EqualFunc(pubs(got.Ins[1]), keysOf(c.want...), bytes.Equal) {
			t.Errorf("%s by %d: %d, %x, error %d", c.name, c.by, n, pubs(got.Ins[1]), err)
		}
	}
	// Those that others signed before are not asked for again, but stop the asking no more than others.
	p, _, _ := knowing(multi(2, 1, 2, 3)).Sign(1, signer{2})
	got, n, err := p.Sign(1, signer{1, 2, 3})
	if err != api.OK || n != 1 || !slices.EqualFunc(pubs(got.Ins[1]), keysOf(2, 1), bytes.Equal) {
		t.Errorf("after another one: %d, %x, error %d", n, pubs(got.Ins[1]), err)
	}
	got, n, err = got.Sign(1, signer{3})
	if err != api.OK || n != 1 || !slices.EqualFunc(pubs(got.Ins[1]), keysOf(2, 1, 3), bytes.Equal) {
		t.Errorf("more than are needed: %d, %x, error %d", n, pubs(got.Ins[1]), err)
	}
}

// TestP24_1SignAnything: whatever the Signer returns with true is its signature, but only the first one for a key.
func TestP24_1SignAnything(t *testing.T) {
	p := knowing(multi(3, 1, 1, 2, 1))
	calls := byte(0)
	counting := answer(func(pub []byte, digest api.Hash) ([]byte, bool) {
		calls++
		return []byte{calls}, true
	})
	got, n, err := p.Sign(1, counting)
	want := with(p, 1, func(in *psbt.In) {
		in.Sigs = []psbt.Sig{{Pub: keyOf(1), Sig: []byte{1}}, {Pub: keyOf(2), Sig: []byte{3}}}
	})
	expectPacket(t, "a Signer that counts", got, err, want, api.OK)
	if n != 2 {
		t.Errorf("a Signer that counts: %d", n)
	}
	calls = 0
	later := answer(func(pub []byte, digest api.Hash) ([]byte, bool) {
		calls++
		return []byte{calls}, calls > 1
	})
	got, n, err = p.Sign(1, later)
	want = with(p, 1, func(in *psbt.In) {
		in.Sigs = []psbt.Sig{{Pub: keyOf(1), Sig: []byte{2}}, {Pub: keyOf(2), Sig: []byte{3}}}
	})
	expectPacket(t, "a Signer that refuses first", got, err, want, api.OK)
	if n != 2 {
		t.Errorf("a Signer that refuses first: %d", n)
	}
	for _, sig := range [][]byte{nil, {}, make([]byte, 63), make([]byte, 65), make([]byte, 20000)} {
		give := answer(func(pub []byte, digest api.Hash) ([]byte, bool) { return sig, true })
		got, n, err = knowing(byKey(1)).Sign(1, give)
		want = with(knowing(byKey(1)), 1, func(in *psbt.In) { in.Sigs = []psbt.Sig{{Pub: keyOf(1), Sig: sig}} })
		expectPacket(t, "a Signer of anything", got, err, want, api.OK)
		if n != 1 {
			t.Errorf("a Signer of %d bytes: %d", len(sig), n)
		}
	}
	// A signature beside false is none.
	refuse := answer(func(pub []byte, digest api.Hash) ([]byte, bool) { return []byte("sig"), false })
	expectSign(t, "a Signer that refuses", p, 1, refuse)
	// A key that has one in the packet keeps it.
	had := with(p, 1, func(in *psbt.In) { in.Sigs = []psbt.Sig{{Pub: keyOf(1), Sig: []byte("wrong")}} })
	got = expectSign(t, "a wrong signature", had, 1, signer{1, 2})
	if !slices.EqualFunc(pubs(got.Ins[1]), keysOf(1, 2), bytes.Equal) || string(got.Ins[1].Sigs[0].Sig) != "wrong" {
		t.Errorf("a wrong signature is replaced: %x", got.Ins[1].Sigs)
	}
}

// TestP24_1SignNothing: where check.Spend asks for nothing, nothing is added.
func TestP24_1SignNothing(t *testing.T) {
	always := answer(func(pub []byte, digest api.Hash) ([]byte, bool) { return make([]byte, 64), true })
	for what, c := range map[string]coin{
		"everybody":           {s: []byte{0x51}},
		"nothing":             {},
		"a missing key":       {s: byKey(1).s},
		"a missing script":    {s: multi(1, 1).behindWitness().s},
		"another script":      {s: multi(1, 1).behindScript().s, inner: [][]byte{multi(1, 2).s}},
		"a script too deep":   {s: multi(1, 1).behindScript().behindScript().s, inner: multi(1, 1).behindScript().behindScript().inner},
		"another witness":     {s: append([]byte{0x51, 32}, make([]byte, 32)...)},
		"a key of 32 bytes":   {s: byKey(1).s, inner: [][]byte{keyOf(1)[:32]}},
		"the wrong hash kind": {s: byKey(1).behindWitness().s, inner: byKey(1).inner},
	} {
		got, n, err := knowing(c).Sign(1, always)
		expectPacket(t, "Sign for "+what, got, err, knowing(c), api.OK)
		if n != 0 {
			t.Errorf("Sign for %s: %d", what, n)
		}
	}
	for what, s := range map[string]check.Signer{
		"nil":                nil,
		"one that panics":    answer(func(pub []byte, digest api.Hash) ([]byte, bool) { panic("no") }),
		"a function of none": answer(nil),
	} {
		got, n, err := knowing(byKey(1)).Sign(1, s)
		expectPacket(t, "Sign by "+what, got, err, knowing(byKey(1)), api.OK)
		if n != 0 {
			t.Errorf("Sign by %s: %d", what, n)
		}
	}
}

func TestP24_1SignErrors(t *testing.T) {
	p := knowing(byKey(1))
	final := with(p, 1, func(in *psbt.In) { in.Final = true })
	unknown := with(p, 1, func(in *psbt.In) { in.Known = false })
	for _, c := range []struct {
		p    psbt.Packet
		i    int
		want api.Errno
	}{
		{p, math.MinInt, api.ErrArg}, {p, -1, api.ErrArg}, {p, 2, api.ErrArg}, {p, math.MaxInt, api.ErrArg}, {final, 2, api.ErrArg},
		{p, 0, api.ErrState}, {final, 0, api.ErrState}, {final, 1, api.ErrState}, {unknown, 1, api.ErrState}, {with(unknown, 1, func(in *psbt.In) { in.Final = true }), 1, api.ErrState},
	} {
		for _, s := range []check.Signer{signer{1}, nil} {
			got, n, err := c.p.Sign(c.i, s)
			expectPacket(t, "Sign", got, err, psbt.Packet{}, c.want)
			if n != 0 {
				t.Errorf("Sign: %d beside an error", n)
			}
		}
		got, err := c.p.Finalize(c.i)
		expectPacket(t, "Finalize", got, err, psbt.Packet{}, c.want)
	}
}

// TestP24_1Finalize: the Script and the Witness are those of check.Spend with the same keys.
func TestP24_1Finalize(t *testing.T) {
	for _, c := range coins() {
		p, _, err := knowing(c).Sign(1, c.all())
		if err != api.OK {
			t.Fatalf("%s: error %d", c.name, err)
		}
		in, ok := check.Spend(p.Tx, 1, c.out(), c.inner, c.all())
		if !ok {
			t.Fatalf("%s: nothing is made", c.name)
		}
		got, err := p.Finalize(1)
		want := with(p, 1, func(x *psbt.In) { x.Final, x.Script, x.Witness = true, in.Script, in.Witness })
		expectPacket(t, c.name, got, err, want, api.OK)
		again, err := got.Finalize(1)
		expectPacket(t, c.name+" again", again, err, psbt.Packet{}, api.ErrState)
	}
}

// TestP24_1FinalizeScript: what does not suffice is ErrScript.
func TestP24_1FinalizeScript(t *testing.T) {
	for _, c := range coins() {
		if slices.Equal(c.keys, []int{1, 2, 1}) {
			// The first key alone suffices.
			continue
		}
		p, _, _ := knowing(c).Sign(1, c.all())
		for k := range p.Ins[1].Sigs {
			for what, change := range map[string]func(in *psbt.In){
				"without a signature": func(in *psbt.In) { in.Sigs = slices.Delete(in.Sigs, k, k+1) },
				"a wrong signature":   func(in *psbt.In) { in.Sigs[k].Sig[9] ^= 1 },
				"an empty signature":  func(in *psbt.In) { in.Sigs[k].Sig = nil },
				"a shorter signature": func(in *psbt.In) { in.Sigs[k].Sig = in.Sigs[k].Sig[:63] },
				"a longer signature":  func(in *psbt.In) { in.Sigs[k].Sig = append(in.Sigs[k].Sig, 1) },
				"a giant signature":   func(in *psbt.In) { in.Sigs[k].Sig = make([]byte, 20000) },
				"another key":         func(in *psbt.In) { in.Sigs[k].Pub = keyOf(9) },
				"a wrong one ahead": func(in *psbt.In) {
					in.Sigs = slices.Insert(in.Sigs, 0, psbt.Sig{Pub: in.Sigs[k].Pub, Sig: make([]byte, 64)})
				},
				"another output":       func(in *psbt.In) { in.Out.Script = byKey(9).s },
				"an output of no form": func(in *psbt.In) { in.Out.Script = []byte{0x51} },
			} {
				q := with(p, 1, change)
				got, err := q.Finalize(1)
				expectPacket(t, c.name+", "+what, got, err, psbt.Packet{}, api.ErrScript)
			}
			// A wrong one behind the right one doesn't matter, nor does one with a key of others.
			q := with(p, 1, func(in *psbt.In) {
				in.Sigs = append(in.Sigs, psbt.Sig{Pub: in.Sigs[k].Pub, Sig: make([]byte, 64)}, psbt.Sig{Pub: keyOf(9), Sig: []byte{1}})
			})
			if _, err := q.Finalize(1); err != api.OK {
				t.Errorf("%s, more signatures: error %d", c.name, err)
			}
		}
		if len(c.inner) > 0 {
			q := with(p, 1, func(in *psbt.In) { in.Inner = in.Inner[1:] })
			got, err := q.Finalize(1)
			expectPacket(t, c.name+" without what a hash refers to", got, err, psbt.Packet{}, api.ErrScript)
		}
	}
	got, err := knowing(coin{s: []byte{0x51}}).Finalize(1)
	expectPacket(t, "what everybody may spend", got, err, psbt.Packet{}, api.ErrScript)
}

// TestP24_1FinalizeLong: what is made may still not spend: a script of more than 520 bytes behind ScriptHash.
func TestP24_1FinalizeLong(t *testing.T) {
	long := multi(1, 1, 2, 3, 4, 5, 6, 7, 8, 9, 10, 11, 12, 13, 14, 15, 16)
	for _, c := range []struct {
		coin
		want api.Errno
	}{{long, api.OK}, {long.behindWitness(), api.OK}, {long.behindScript(), api.ErrScript}} {
		p, n, err := knowing(c.coin).Sign(1, c.all())
		if n != 1 || err != api.OK {
			t.Fatalf("%s: %d, error %d", c.name, n, err)
		}
		got, err := p.Finalize(1)
		if err != c.want || err != api.OK && text(got) != text(psbt.Packet{}) {
			t.Errorf("%s: error %d; want %d", c.name, err, c.want)
		}
	}
}

// TestP24_1Payment: what is signed is the transaction, and in a witness the Value of what it spends.
func TestP24_1Payment(t *testing.T) {
	for _, c := range coins() {
		p, _, _ := knowing(c).Sign(1, c.all())
		for k, change := range []func(x *api.Tx){
			func(x *api.Tx) { x.Out[0].Value++ }, func(x *api.Tx) { x.Lock++ }, func(x *api.Tx) { x.In[0].Seq++ }, func(x *api.Tx) { x.In[1].Prev.Index++ },
		} {
			q := copyOf(p, false)
			change(&q.Tx)
			got, err := q.Finalize(1)
			expectPacket(t, c.name+" for another payment", got, err, psbt.Packet{}, api.ErrScript)
			if k == 0 {
				q.Ins[1].Sigs = nil
				q, _, _ = q.Sign(1, c.all())
				if _, err := q.Finalize(1); err != api.OK {
					t.Errorf("%s, signed for another payment: error %d", c.name, err)
				}
			}
		}
		q := with(p, 1, func(in *psbt.In) { in.Out.Value++ })
		_, err := q.Finalize(1)
		x, _ := check.Spend(p.Tx, 1, c.out(), c.inner, c.all())
		if want := check.Input(withInput(p.Tx, x), 1, q.Ins[1].Out); err != want {
			t.Errorf("%s with another Value: error %d; want %d", c.name, err, want)
		}
	}
}

// withInput returns a transaction with another second input.
func withInput(t api.Tx, in api.TxIn) api.Tx {
	t = tx.Clone(t)
	t.In[1] = in
	return t
}
