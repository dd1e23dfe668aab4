package psbt_test

import (
	"bytes"
	"math/rand"
	"slices"
	"testing"

	"strongbox/api"
	"strongbox/check"
	"strongbox/psbt"
	"strongbox/tx"
)

// plainCombine is Combine as the document says it, for packets of the same transaction.
func plainCombine(a, b psbt.Packet) (psbt.Packet, api.Errno) {
	a, b = copyOf(a, false), copyOf(b, false)
	for i, y := range b.Ins {
		x := &a.Ins[i]
		switch {
		case x.Known && y.Known:
			if x.Out.Value != y.Out.Value || !bytes.Equal(x.Out.Script, y.Out.Script) {
				return psbt.Packet{}, api.ErrClash
			}
		case !x.Known:
			x.Known, x.Out = y.Known, y.Out
		}
		for _, more := range y.Inner {
			if !slices.ContainsFunc(x.Inner, func(b []byte) bool { return bytes.Equal(b, more) }) {
				x.Inner = append(x.Inner, more)
			}
		}
		for _, more := range y.Sigs {
			if !slices.ContainsFunc(x.Sigs, func(s psbt.Sig) bool { return bytes.Equal(s.Pub, more.Pub) }) {
				x.Sigs = append(x.Sigs, more)
			}
		}
		if !x.Final {
			x.Final, x.Script, x.Witness = y.Final, y.Script, y.Witness
		}
	}
	return a, api.OK
}

func expectCombine(t *testing.T, what string, a, b, want psbt.Packet, err api.Errno) {
	t.Helper()
	before := text(a) + text(b)
	got, e := psbt.Combine(a, b)
	expectPacket(t, "Combine of "+what, got, e, want, err)
	if text(a)+text(b) != before {
		t.Errorf("Combine of %s changed a packet", what)
	}
}

func TestP24_1Combine(t *testing.T) {
	a, b, c, d := []byte("a"), []byte("b"), []byte("c"), []byte("d")
	out, other := api.TxOut{Value: 7, Script: []byte("out")}, api.TxOut{Value: 8, Script: []byte("other")}
	sig := func(pub, sig []byte) psbt.Sig { return psbt.Sig{Pub: pub, Sig: sig} }
	for _, x := range []struct {
		what             string
		one, two, joined psbt.In
	}{
		{"nothing", psbt.In{}, psbt.In{}, psbt.In{}},
		{"an output of the first", psbt.In{Known: true, Out: out}, psbt.In{}, psbt.In{Known: true, Out: out}},
		{"an output of the second", psbt.In{}, psbt.In{Known: true, Out: out}, psbt.In{Known: true, Out: out}},
		{"the same output", psbt.In{Known: true, Out: out}, psbt.In{Known: true, Out: out}, psbt.In{Known: true, Out: out}},
		{"one that the second does not know", psbt.In{Known: true, Out: out}, psbt.In{Out: other}, psbt.In{Known: true, Out: out}},
		{"one that the first does not know", psbt.In{Out: other}, psbt.In{Known: true, Out: out}, psbt.In{Known: true, Out: out}},
		{"outputs that none knows", psbt.In{Out: out}, psbt.In{Out: other}, psbt.In{Out: other}},
		{"an output that none knows", psbt.In{Out: out}, psbt.In{}, psbt.In{}},
		{"an empty output", psbt.In{Known: true}, psbt.In{Out: other}, psbt.In{Known: true}},
		{"inner ones", psbt.In{Inner: [][]byte{a, b}}, psbt.In{Inner: [][]byte{c, b, d, a, c}}, psbt.In{Inner: [][]byte{a, b, c, d}}},
		{"inner ones of the second", psbt.In{}, psbt.In{Inner: [][]byte{b, a, b, nil, {}}}, psbt.In{Inner: [][]byte{b, a, nil}}},
		{"inner ones of the first", psbt.In{Inner: [][]byte{a, b, a}}, psbt.In{}, psbt.In{Inner: [][]byte{a, b, a}}},
		{"an empty inner one", psbt.In{Inner: [][]byte{{}}}, psbt.In{Inner: [][]byte{nil, a}}, psbt.In{Inner: [][]byte{{}, a}}},
		{"signatures", psbt.In{Sigs: []psbt.Sig{sig(a, c), sig(b, c)}}, psbt.In{Sigs: []psbt.Sig{sig(d, c), sig(a, d), sig(c, c), sig(d, a)}}, psbt.In{Sigs: []psbt.Sig{sig(a, c), sig(b, c), sig(d, c), sig(c, c)}}},
		{"signatures of the second", psbt.In{}, psbt.In{Sigs: []psbt.Sig{sig(a, b), sig(a, c), sig(nil, c), sig(nil, d)}}, psbt.In{Sigs: []psbt.Sig{sig(a, b), sig(nil, c)}}},
		{"signatures of the first", psbt.In{Sigs: []psbt.Sig{sig(a, b), sig(b, nil)}}, psbt.In{}, psbt.In{Sigs: []psbt.Sig{sig(a, b), sig(b, nil)}}},
		{"a Final one and another", psbt.In{Final: true, Script: a, Witness: [][]byte{b}}, psbt.In{Script: c, Witness: [][]byte{d}}, psbt.In{Final: true, Script: a, Witness: [][]byte{b}}},
		{"another and a Final one", psbt.In{Script: c, Witness: [][]byte{d}}, psbt.In{Final: true, Script: a, Witness: [][]byte{b}}, psbt.In{Final: true, Script: a, Witness: [][]byte{b}}},
		{"another and a Final one of nothing", psbt.In{Script: c, Witness: [][]byte{d}}, psbt.In{Final: true}, psbt.In{Final: true}},
		{"two Final ones", psbt.In{Final: true, Script: a}, psbt.In{Final: true, Script: b, Witness: [][]byte{b}}, psbt.In{Final: true, Script: a}},
		{"none that is Final", psbt.In{Script: a, Witness: [][]byte{b}}, psbt.In{Script: c, Witness: [][]byte{d, d}}, psbt.In{Script: c, Witness: [][]byte{d, d}}},
		{"all of both", psbt.In{Known: true, Out: out, Sigs: []psbt.Sig{sig(a, b)}}, psbt.In{Inner: [][]byte{a}, Final: true, Script: c}, psbt.In{Known: true, Out: out, Sigs: []psbt.Sig{sig(a, b)}, Inner: [][]byte{a}, Final: true, Script: c}},
	} {
		for i := range 3 {
			in := func(in psbt.In) psbt.Packet { return with(created(3), i, func(x *psbt.In) { *x = in }) }
			expectCombine(t, x.what, in(x.one), in(x.two), in(x.joined), api.OK)
			// What is known about other inputs is not mixed with that.
			rest := with(in(x.one), (i+1)%3, func(x *psbt.In) { *x = full().Ins[1] })
			expectCombine(t, x.what+" beside others", rest, in(x.two), with(in(x.joined), (i+1)%3, func(x *psbt.In) {
				*x = full().Ins[1]
				x.Out, x.Script, x.Witness = api.TxOut{}, nil, nil
			}), api.OK)
		}
	}
	expectCombine(t, "a packet with itself", full(), full(), full(), api.OK)
}

func TestP24_1CombineErrors(t *testing.T) {
	p := full()
	for what, change := range map[string]func(x *api.Tx){
		"another Version": func(x *api.Tx) { x.Version++ }, "another Lock": func(x *api.Tx) { x.Lock++ }, "another Seq": func(x *api.Tx) { x.In[2].Seq++ },
		"another Prev": func(x *api.Tx) { x.In[0].Prev.Hash[9]++ }, "another index": func(x *api.Tx) { x.In[0].Prev.Index++ }, "another Value": func(x *api.Tx) { x.Out[0].Value++ },
		"another Script": func(x *api.Tx) { x.Out[2].Script = nil }, "an output less": func(x *api.Tx) { x.Out = x.Out[:2] }, "another order": func(x *api.Tx) { slices.Reverse(x.In) },
	} {
		x := payment(3)
		change(&x)
		q, err := psbt.Create(x)
		if err != api.OK {
			t.Fatalf("error %d", err)
		}
		expectCombine(t, what, p, q, psbt.Packet{}, api.ErrClash)
		expectCombine(t, what, q, p, psbt.Packet{}, api.ErrClash)
	}
	for _, n := range []int{1, 2, 4} {
		expectCombine(t, "other numbers of inputs", p, created(n), psbt.Packet{}, api.ErrClash)
		expectCombine(t, "other numbers of inputs", created(n), p, psbt.Packet{}, api.ErrClash)
	}
	for i := range 3 {
		a, _ := created(3).Update(i, api.TxOut{Value: 5, Script: []byte("out")})
		for _, out := range []api.TxOut{{}, {Value: 5}, {Value: 6, Script: []byte("out")}, {Value: 5, Script: []byte("ouT")}} {
			b, _ := created(3).Update(i, out)
			expectCombine(t, "another output", a, b, psbt.Packet{}, api.ErrClash)
			expectCombine(t, "another output", b, a, psbt.Packet{}, api.ErrClash)
			b = with(b, i, func(in *psbt.In) { in.Final = true })
			expectCombine(t, "another output that is Final", a, b, psbt.Packet{}, api.ErrClash)
			c, _ := created(3).Update((i+1)%3, out)
			expectCombine(t, "an output of another input", a, c, with(a, (i+1)%3, func(in *psbt.In) { in.Known, in.Out = true, out }), api.OK)
		}
	}
}

// randomIn returns an In of a few bytes, whose lists often have the same.
func randomIn(r *rand.Rand) psbt.In {
	bit := func() bool { return r.Intn(2) == 0 }
	some := func() []byte { return []byte("abc")[:r.Intn(4)] }
	list := func() [][]byte {
		var all [][]byte
		for range r.Intn(4) {
			all = append(all, some())
		}
		return all
	}
	in := psbt.In{Known: bit(), Out: api.TxOut{Value: 9, Script: []byte("x")}, Inner: list(), Final: bit(), Script: some(), Witness: list()}
	if r.Intn(8) == 0 {
		in.Out.Value = 8
	}
	for range r.Intn(4) {
		in.Sigs = append(in.Sigs, psbt.Sig{Pub: some(), Sig: some()})
	}
	return in
}

func randomPacket(r *rand.Rand) psbt.Packet {
	p := created(2)
	for i := range p.Ins {
		p.Ins[i] = randomIn(r)
	}
	return p
}

func TestP24_1CombineAny(t *testing.T) {
	r := rand.New(rand.NewSource(24))
	for range 3000 {
		a, b := randomPacket(r), randomPacket(r)
		want, err := plainCombine(a, b)
		expectCombine(t, "any two", a, b, want, err)
	}
}

func TestP24_1Extract(t *testing.T) {
	p := full()
	for i := range p.Ins {
		p.Ins[i].Final = true
	}
	got, err := p.Extract()
	want := payment(3)
	for i, in := range p.Ins {
		want.In[i].Script, want.In[i].Witness = in.Script, in.Witness
	}
	if err != api.OK || !tx.Same(got, want) {
		t.Errorf("Extract: %+v, error %d", got, err)
	}
	for i := range p.Ins {
		q := with(p, i, func(in *psbt.In) { in.Final = false })
		if got, err := q.Extract(); err != api.ErrState || !tx.Same(got, api.Tx{}) {
			t.Errorf("Extract with input %d not Final: %+v, error %d", i, got, err)
		}
	}
	if got, err := created(1).Extract(); err != api.ErrState || !tx.Same(got, api.Tx{}) {
		t.Errorf("Extract of nothing known: %+v, error %d", got, err)
	}
}

// TestP24_2Spends: what is extracted may spend, whatever each input spends.
func TestP24_2Spends(t *testing.T) {
	list := coins()
	p := created(len(list))
	var outs []api.TxOut
	for i, c := range list {
		p, _ = p.Update(i, c.out(), c.inner...)
		outs = append(outs, c.out())
	}
	for i, c := range list {
		if x, err := p.Extract(); err != api.ErrState || len(x.In) > 0 {
			t.Errorf("Extract ahead of %s: error %d", c.name, err)
		}
		p, _, _ = p.Sign(i, c.all())
		q, err := p.Finalize(i)
		if err != api.OK {
			t.Fatalf("Finalize of %s: error %d", c.name, err)
		}
		p = q
	}
	x, err := p.Extract()
	if err != api.OK || check.All(x, outs...) != api.OK || tx.Id(x) == tx.Id(p.Tx) {
		t.Errorf("Extract: error %d, All %d", err, check.All(x, outs...))
	}
	for i := range x.In {
		x.In[i].Script, x.In[i].Witness = nil, nil
	}
	if !tx.Same(x, p.Tx) {
		t.Errorf("another transaction was extracted: %+v", x)
	}
}

// people are several who sign one transaction, each with keys of its own, in packets that anybody may have got.
type people struct {
	*rand.Rand
	coins   []coin
	keys    []signer
	packets []psbt.Packet
}

func (p *people) packet() psbt.Packet { return p.packets[p.Intn(len(p.packets))] }

// step lets somebody do something with a packet, or with two. Whatever can't be done changes nothing.
func (p *people) step(t *testing.T) {
	i := p.Intn(len(p.coins))
	q, err := p.packet(), api.OK
	switch p.Intn(6) {
	case 0, 1:
		q, _, err = q.Sign(i, p.keys[p.Intn(len(p.keys))])
	case 2, 3:
		q, err = psbt.Combine(q, p.packet())
		if err != api.OK {
			t.Fatalf("Combine: error %d", err)
		}
	case 4:
		q, err = q.Finalize(i)
	case 5:
		q, err = psbt.Decode(q.Encode())
		if err != api.OK {
			t.Fatalf("Decode: error %d", err)
		}
	}
	if err == api.OK {
		p.packets = append(p.packets, q)
	}
}

// finish lets everybody sign everywhere, each in any packet, and combines all.
func (p *people) finish(t *testing.T) psbt.Packet {
	for i := range p.coins {
		for _, k := range p.Perm(len(p.keys)) {
			if q, _, err := p.packet().Sign(i, p.keys[k]); err == api.OK {
				p.packets = append(p.packets, q)
			} else if q, _, err = p.packets[0].Sign(i, p.keys[k]); err == api.OK {
				p.packets = append(p.packets, q)
			} else {
				t.Fatalf("Sign: error %d", err)
			}
		}
	}
	p.Shuffle(len(p.packets), func(i, j int) { p.packets[i], p.packets[j] = p.packets[j], p.packets[i] })
	all := p.packets[0]
	for _, q := range p.packets[1:] {
		var err api.Errno
		if all, err = psbt.Combine(all, q); err != api.OK {
			t.Fatalf("Combine: error %d", err)
		}
	}
	return all
}

// enough: have all of them together the keys that a coin needs?
func (p *people) enough(c coin) bool {
	n := 0
	for _, k := range c.keys {
		if slices.ContainsFunc(p.keys, func(s signer) bool { return slices.Contains(s, k) }) {
			n++
		}
	}
	return n >= c.need
}

func newPeople(r *rand.Rand) *people {
	p := &people{Rand: r}
	list := coins()
	for range 1 + r.Intn(3) {
		p.coins = append(p.coins, list[r.Intn(len(list))])
	}
	for range 2 + r.Intn(3) {
		var s signer
		for k := 1; k <= 3; k++ {
			if r.Intn(3) > 0 {
				s = append(s, k)
			}
		}
		p.keys = append(p.keys, s)
	}
	first := created(len(p.coins))
	for i, c := range p.coins {
		first, _ = first.Update(i, c.out(), c.inner...)
	}
	p.packets = []psbt.Packet{first}
	return p
}

// TestP24_3Several: whoever signs where, and however it is combined, with enough keys it becomes final, and without them it does not.
func TestP24_3Several(t *testing.T) {
	r := rand.New(rand.NewSource(243))
	finals, others := 0, 0
	for range 60 {
		p := newPeople(r)
		for range r.Intn(25) {
			p.step(t)
		}
		all := p.finish(t)
		final := true
		var outs []api.TxOut
		for i, c := range p.coins {
			outs = append(outs, c.out())
			want := api.OK
			if !p.enough(c) {
				want = api.ErrScript
			}
			if all.Ins[i].Final && want == api.OK {
				continue
			}
			q, err := all.Finalize(i)
			if err != want {
				t.Fatalf("%s by %v: error %d; want %d", c.name, p.keys, err, want)
			}
			final = final && err == api.OK
			if err == api.OK {
				all = q
			}
		}
		x, err := all.Extract()
		if !final {
			others++
			if err != api.ErrState {
				t.Errorf("Extract of what isn't final: error %d", err)
			}
			continue
		}
		finals++
		if err != api.OK || check.All(x, outs...) != api.OK {
			t.Errorf("Extract: error %d, All %d", err, check.All(x, outs...))
		}
	}
	if finals < 10 || others < 5 {
		t.Errorf("%d are final, %d are not", finals, others)
	}
}

// TestP24_3Apart: one knows the outputs, one what hashes refer to, one the keys of one half, one those of the other.
func TestP24_3Apart(t *testing.T) {
	c := multi(3, 3, 1, 2).behindWitness().behindScript()
	p := created(2)
	outs, _ := p.Update(1, c.out())
	inner := with(p, 1, func(in *psbt.In) { in.Inner = c.inner })
	both, err := psbt.Combine(inner, outs)
	if err != api.OK {
		t.Fatalf("error %d", err)
	}
	one, n, _ := both.Sign(1, signer{3})
	if n != 1 {
		t.Errorf("%d signatures", n)
	}
	two, n, _ := both.Sign(1, signer{1, 2})
	if n != 2 {
		t.Errorf("%d signatures", n)
	}
	for _, order := range [][3]psbt.Packet{{one, two, p}, {two, one, inner}, {p, one, two}, {outs, two, one}, {two, p, one}} {
		q, err := psbt.Combine(order[0], order[1])
		if err != api.OK {
			t.Fatalf("error %d", err)
		}
		if q, err = psbt.Combine(q, order[2]); err != api.OK {
			t.Fatalf("error %d", err)
		}
		if q, err = q.Finalize(1); err != api.OK {
			t.Fatalf("Finalize: error %d", err)
		}
		// Who combines it with what isn't final has it, too.
		for _, other := range []psbt.Packet{p, one, both} {
			a, _ := psbt.Combine(other, q)
			b, _ := psbt.Combine(q, other)
			x := withInput(p.Tx, api.TxIn{Prev: p.Tx.In[1].Prev, Seq: p.Tx.In[1].Seq, Script: a.Ins[1].Script, Witness: a.Ins[1].Witness})
			if !a.Ins[1].Final || !b.Ins[1].Final || check.Input(x, 1, c.out()) != api.OK {
				t.Errorf("it isn't final")
			}
		}
	}
}
