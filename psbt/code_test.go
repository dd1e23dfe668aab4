package psbt_test

import (
	"bytes"
	"math"
	"math/rand"
	"slices"
	"testing"

	"strongbox/api"
	"strongbox/psbt"
	"strongbox/tx"
)

// expectBack: what was encoded is decoded to the same.
func expectBack(t *testing.T, what string, p psbt.Packet) []byte {
	t.Helper()
	before := text(p)
	b := p.Encode()
	got, err := psbt.Decode(b)
	if err != api.OK || !psbt.Same(got, p) || text(got) != before || text(p) != before {
		t.Errorf("%s comes back as %.300s, error %d", what, text(got), err)
	}
	if !bytes.Equal(got.Encode(), b) {
		t.Errorf("%s is encoded in two ways", what)
	}
	return b
}

// expectRefused: bytes are no packet.
func expectRefused(t *testing.T, what string, b []byte) {
	t.Helper()
	got, err := psbt.Decode(b)
	if !slices.Contains([]api.Errno{api.ErrForm, api.ErrEnd, api.ErrSize, api.ErrNone}, err) {
		t.Errorf("%s: error %d", what, err)
	}
	if text(got) != text(psbt.Packet{}) {
		t.Errorf("%s: %.300s beside an error", what, text(got))
	}
}

// packets are some of all kinds.
func packets() []psbt.Packet {
	list := []psbt.Packet{created(1), created(2), full()}
	for _, c := range []coin{byKey(1), byWitnessKey(1).behindScript(), multi(2, 1, 2, 3).behindWitness()} {
		p := knowing(c)
		signed, _, _ := p.Sign(1, c.all())
		final, _ := signed.Finalize(1)
		list = append(list, p, signed, final)
	}
	p := full()
	p.Tx.Out, p.Tx.Version, p.Tx.Lock = nil, math.MinInt32, math.MaxUint32
	p.Ins[2] = psbt.In{Known: true, Out: api.TxOut{Value: math.MinInt64}}
	return append(list, p, with(p, 0, func(in *psbt.In) { in.Out.Value = math.MaxInt64 }))
}

func TestP24_4Inverse(t *testing.T) {
	for _, p := range packets() {
		expectBack(t, "a packet", p)
	}
	r := rand.New(rand.NewSource(244))
	for range 500 {
		expectBack(t, "a random packet", randomPacket(r))
	}
}

// filled returns n elements.
func filled[T any](n int, x T) []T { return slices.Repeat([]T{x}, n) }

// limits are parts of a packet that can be of any size, with the greatest one that is encoded.
func limits() map[string]struct {
	most int
	grow func(p *psbt.Packet, n int)
} {
	type limit = struct {
		most int
		grow func(p *psbt.Packet, n int)
	}
	part := func(grow func(in *psbt.In, b []byte)) limit {
		return limit{10000, func(p *psbt.Packet, n int) { grow(&p.Ins[0], filled(n, byte(7))) }}
	}
	list := func(grow func(in *psbt.In, n int)) limit {
		return limit{1000, func(p *psbt.Packet, n int) { grow(&p.Ins[0], n) }}
	}
	return map[string]limit{
		"the script of an output":         part(func(in *psbt.In, b []byte) { in.Out.Script = b }),
		"an inner one":                    part(func(in *psbt.In, b []byte) { in.Inner[1] = b }),
		"a public key":                    part(func(in *psbt.In, b []byte) { in.Sigs[1].Pub = b }),
		"a signature":                     part(func(in *psbt.In, b []byte) { in.Sigs[0].Sig = b }),
		"a Script":                        part(func(in *psbt.In, b []byte) { in.Script = b }),
		"an item":                         part(func(in *psbt.In, b []byte) { in.Witness[1] = b }),
		"the list of inner ones":          list(func(in *psbt.In, n int) { in.Inner = filled(n, []byte{1}) }),
		"the list of empty inner ones":    list(func(in *psbt.In, n int) { in.Inner = filled[[]byte](n, nil) }),
		"the list of signatures":          list(func(in *psbt.In, n int) { in.Sigs = filled(n, psbt.Sig{Pub: []byte{1}, Sig: []byte{2}}) }),
		"the list of empty signatures":    list(func(in *psbt.In, n int) { in.Sigs = filled(n, psbt.Sig{}) }),
		"the list of items":               list(func(in *psbt.In, n int) { in.Witness = filled(n, []byte{1}) }),
		"the list of inputs":              {1000, func(p *psbt.Packet, n int) { p.Tx.In, p.Ins = filled(n, p.Tx.In[0]), filled(n, psbt.In{}) }},
		"the transaction, by one output":  {100000, func(p *psbt.Packet, n int) { p.Tx.Out[0].Script = filled(n-tx.Size(p.Tx)-2, byte(7)) }},
		"the transaction, by all outputs": {100000, growOutputs},
	}
}

// growOutputs lets the transaction have so many bytes by many outputs.
func growOutputs(p *psbt.Packet, n int) {
	p.Tx.Out = filled(10000, api.TxOut{Value: 5})
	size := tx.Size(p.Tx)
	// A script that is longer by 252 bytes has a size of one byte still.
	for i := 0; size < n; i++ {
		more := min(252, n-size)
		p.Tx.Out[i].Script = filled(more, byte(9))
		size += more
	}
}

func TestP24_4Limits(t *testing.T) {
	for what, l := range limits() {
		for _, n := range []int{l.most - 1, l.most} {
			p := full()
			l.grow(&p, n)
			expectBack(t, what, p)
		}
		// What Encode returns for these is not specified.
		for _, n := range []int{l.most + 1, 2*l.most + 1, 70000 + l.most} {
			p := full()
			l.grow(&p, n)
			expectRefused(t, what, p.Encode())
		}
	}
	if p := full(); tx.Size(p.Tx) > 1000 {
		t.Errorf("%d bytes", tx.Size(p.Tx))
	}
}

// TestP24_4AllLimits: many parts at their limits at once.
func TestP24_4AllLimits(t *testing.T) {
	p := created(1000)
	long := filled(10000, byte(3))
	p.Ins[500] = psbt.In{Known: true, Out: api.TxOut{Value: -1, Script: long}, Inner: filled(1000, long), Sigs: filled(1000, psbt.Sig{Pub: long, Sig: long}), Final: true, Script: long, Witness: filled(1000, long)}
	b := p.Encode()
	got, err := psbt.Decode(b)
	if err != api.OK || !psbt.Same(got, p) {
		t.Errorf("error %d", err)
	}
}

// TestP24_4Others: bytes that are no packet.
func TestP24_4Others(t *testing.T) {
	for _, p := range packets() {
		b := expectBack(t, "a packet", p)
		for n := range len(b) {
			expectRefused(t, "a beginning", b[:n])
			expectRefused(t, "an end", b[n+1:])
		}
		for _, more := range []byte{0, 1, 255} {
			expectRefused(t, "one byte more", append(slices.Clone(b), more))
			expectRefused(t, "one byte ahead", append([]byte{more}, b...))
		}
		expectRefused(t, "twice the same", append(slices.Clone(b), b...))
		expectRefused(t, "a transaction", tx.Encode(p.Tx, true))
	}
	for _, b := range [][]byte{nil, {}, {0}, {1}, {255}, []byte("x"), []byte("psbt"), []byte("psbt\xff"), []byte("psbt\xff\x00"), make([]byte, 1000), filled(1000, byte(1)), filled(1000, byte(255))} {
		expectRefused(t, "another thing", b)
	}
}

// expectSure: bytes are either refused, or nothing else than what the packet is encoded as that they are decoded to.
func expectSure(t *testing.T, b []byte) {
	t.Helper()
	p, err := psbt.Decode(b)
	if err != api.OK {
		expectRefused(t, "changed bytes", b)
		return
	}
	if !bytes.Equal(p.Encode(), b) {
		t.Errorf("%x is decoded, but encoded as %x", b, p.Encode())
	}
}

// TestP24_4AnyBytes changes, leaves out and adds each byte of encodings.
func TestP24_4AnyBytes(t *testing.T) {
	for _, p := range packets() {
		b := p.Encode()
		for i := range b {
			for _, v := range []byte{0, 1, 2, 3, 252, 253, 254, 255, b[i] + 1, b[i] ^ 128} {
				c := slices.Clone(b)
				c[i] = v
				expectSure(t, c)
				expectSure(t, slices.Insert(slices.Clone(b), i, v))
			}
			expectSure(t, slices.Delete(slices.Clone(b), i, i+1))
		}
	}
}

// TestP24_4OtherTx: a packet's transaction has inputs, and no Scripts and Witnesses in them.
func TestP24_4OtherTx(t *testing.T) {
	p := created(2)
	b := p.Encode()
	inside := tx.Encode(p.Tx, true)
	at := bytes.Index(b, inside)
	if at < 0 {
		t.Fatalf("the transaction is encoded in another way")
	}
	if !bytes.Equal(b, slices.Concat(b[:at-1], []byte{byte(len(inside))}, inside, b[at+len(inside):])) {
		t.Fatalf("its size is not a byte ahead of it")
	}
	for what, change := range map[string]func(x *api.Tx){
		"a Script": func(x *api.Tx) { x.In[0].Script = []byte{1} }, "a Witness": func(x *api.Tx) { x.In[1].Witness = [][]byte{nil} }, "no input": func(x *api.Tx) { x.In, x.Out = nil, nil }, "one input": func(x *api.Tx) { x.In = x.In[:1] }, "three inputs": func(x *api.Tx) { x.In = append(x.In, x.In[0]) },
	} {
		x := tx.Clone(p.Tx)
		change(&x)
		other := tx.Encode(x, true)
		expectRefused(t, what, slices.Concat(b[:at-1], []byte{byte(len(other))}, other, b[at+len(inside):]))
	}
}

func TestP24_4Same(t *testing.T) {
	p := full()
	if !psbt.Same(p, full()) || !psbt.Same(psbt.Packet{}, psbt.Packet{}) || psbt.Same(p, psbt.Packet{}) || psbt.Same(psbt.Packet{}, p) {
		t.Errorf("Same")
	}
	for what, change := range map[string]func(p *psbt.Packet){
		"Version": func(p *psbt.Packet) { p.Tx.Version++ }, "Lock": func(p *psbt.Packet) { p.Tx.Lock++ }, "Prev": func(p *psbt.Packet) { p.Tx.In[1].Prev.Index++ }, "Seq": func(p *psbt.Packet) { p.Tx.In[2].Seq++ },
		"an input's Script": func(p *psbt.Packet) { p.Tx.In[0].Script = []byte{1} }, "an input's Witness": func(p *psbt.Packet) { p.Tx.In[0].Witness = [][]byte{nil} }, "an output": func(p *psbt.Packet) { p.Tx.Out[0].Value++ }, "no outputs": func(p *psbt.Packet) { p.Tx.Out = nil },
		"an In less": func(p *psbt.Packet) { p.Ins = p.Ins[:2] }, "an In more": func(p *psbt.Packet) { p.Ins = append(p.Ins, psbt.In{}) }, "other places": func(p *psbt.Packet) { p.Ins[0], p.Ins[1] = p.Ins[1], p.Ins[0] },
		"Known": func(p *psbt.Packet) { p.Ins[0].Known = false }, "Known of another": func(p *psbt.Packet) { p.Ins[2].Known = true },
		"Value": func(p *psbt.Packet) { p.Ins[0].Out.Value++ }, "Script of Out": func(p *psbt.Packet) { p.Ins[1].Out.Script[0]++ }, "no Script of Out": func(p *psbt.Packet) { p.Ins[1].Out.Script = nil },
		"Inner": func(p *psbt.Packet) { p.Ins[0].Inner[0][0]++ }, "Inner less": func(p *psbt.Packet) { p.Ins[0].Inner = p.Ins[0].Inner[:2] }, "Inner more": func(p *psbt.Packet) { p.Ins[2].Inner = [][]byte{{}} }, "Inner elsewhere": func(p *psbt.Packet) { slices.Reverse(p.Ins[0].Inner) },
		"Pub": func(p *psbt.Packet) { p.Ins[0].Sigs[0].Pub[1]++ }, "Sig": func(p *psbt.Packet) { p.Ins[0].Sigs[1].Sig[1]++ }, "Sigs less": func(p *psbt.Packet) { p.Ins[1].Sigs = nil }, "Sigs more": func(p *psbt.Packet) { p.Ins[2].Sigs = []psbt.Sig{{}} }, "Sigs elsewhere": func(p *psbt.Packet) { slices.Reverse(p.Ins[0].Sigs) },
		"Final": func(p *psbt.Packet) { p.Ins[0].Final = false }, "Final of another": func(p *psbt.Packet) { p.Ins[2].Final = true }, "Script": func(p *psbt.Packet) { p.Ins[0].Script[0]++ }, "no Script": func(p *psbt.Packet) { p.Ins[1].Script = nil },
		"Witness": func(p *psbt.Packet) { p.Ins[0].Witness[0][2]++ }, "Witness less": func(p *psbt.Packet) { p.Ins[0].Witness = p.Ins[0].Witness[:1] }, "Witness more": func(p *psbt.Packet) { p.Ins[2].Witness = [][]byte{nil} },
	} {
		q := full()
		change(&q)
		if psbt.Same(p, q) || psbt.Same(q, p) || !psbt.Same(q, q) {
			t.Errorf("Same with another part: %s", what)
		}
	}
}

// TestP24_4SameEmpty: nil and empty are equal.
func TestP24_4SameEmpty(t *testing.T) {
	p := created(2)
	q := created(2)
	for i := range q.Ins {
		q.Ins[i] = psbt.In{Out: api.TxOut{Script: []byte{}}, Inner: [][]byte{}, Sigs: []psbt.Sig{}, Script: []byte{}, Witness: [][]byte{}}
		q.Tx.In[i].Script, q.Tx.In[i].Witness = []byte{}, [][]byte{}
	}
	if !psbt.Same(p, q) || !psbt.Same(q, p) || !bytes.Equal(p.Encode(), q.Encode()) {
		t.Errorf("nil and empty differ")
	}
	lists := func(b []byte) psbt.Packet {
		return with(p, 1, func(in *psbt.In) {
			in.Inner, in.Sigs, in.Witness = [][]byte{b}, []psbt.Sig{{Pub: b, Sig: b}}, [][]byte{b, b}
		})
	}
	if !psbt.Same(lists(nil), lists([]byte{})) || psbt.Same(lists(nil), p) || psbt.Same(lists(nil), lists([]byte{0})) {
		t.Errorf("elements that are nil and empty differ")
	}
	if !psbt.Same(psbt.Packet{}, psbt.Packet{Tx: api.Tx{In: []api.TxIn{}, Out: []api.TxOut{}}, Ins: []psbt.In{}}) {
		t.Errorf("empty packets differ")
	}
}
