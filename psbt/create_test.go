package psbt_test

import (
	"math"
	"testing"

	"strongbox/api"
	"strongbox/psbt"
	"strongbox/tx"
)

func TestP24_1Create(t *testing.T) {
	for n := 1; n < 5; n++ {
		x := payment(n)
		p, err := psbt.Create(x)
		expectPacket(t, "Create", p, err, psbt.Packet{Tx: x, Ins: make([]psbt.In, n)}, api.OK)
	}
	x := payment(3)
	x.In[1].Script, x.In[1].Witness = []byte{}, [][]byte{}
	p, err := psbt.Create(x)
	expectPacket(t, "Create with empty lists", p, err, psbt.Packet{Tx: payment(3), Ins: make([]psbt.In, 3)}, api.OK)
	x.Out = nil
	p, err = psbt.Create(x)
	expectPacket(t, "Create without outputs", p, err, psbt.Packet{Tx: x, Ins: make([]psbt.In, 3)}, api.OK)
	// Whether a transaction could be on a chain doesn't matter.
	x = api.Tx{In: []api.TxIn{{}, {}}, Out: []api.TxOut{{Value: math.MinInt64}}}
	p, err = psbt.Create(x)
	expectPacket(t, "Create of anything", p, err, psbt.Packet{Tx: x, Ins: make([]psbt.In, 2)}, api.OK)
}

func TestP24_1CreateForm(t *testing.T) {
	for what, change := range map[string]func(x *api.Tx){
		"no input":          func(x *api.Tx) { x.In = nil },
		"an empty list":     func(x *api.Tx) { x.In = []api.TxIn{} },
		"a Script":          func(x *api.Tx) { x.In[0].Script = []byte{0} },
		"a later Script":    func(x *api.Tx) { x.In[2].Script = []byte{1, 2} },
		"a Witness":         func(x *api.Tx) { x.In[0].Witness = [][]byte{{1}} },
		"an empty item":     func(x *api.Tx) { x.In[2].Witness = [][]byte{{}} },
		"a nil item":        func(x *api.Tx) { x.In[1].Witness = [][]byte{nil} },
		"Script of another": func(x *api.Tx) { x.In = append(x.In, api.TxIn{Script: []byte{1}, Witness: [][]byte{{1}}}) },
	} {
		x := payment(3)
		change(&x)
		p, err := psbt.Create(x)
		expectPacket(t, "Create with "+what, p, err, psbt.Packet{}, api.ErrForm)
	}
}

// invalid returns packets that are not valid.
func invalid() map[string]psbt.Packet {
	list := map[string]psbt.Packet{"nothing": {}}
	for what, change := range map[string]func(p *psbt.Packet){
		"no input":        func(p *psbt.Packet) { p.Tx.In, p.Ins = nil, nil },
		"an empty list":   func(p *psbt.Packet) { p.Tx.In, p.Ins = []api.TxIn{}, []psbt.In{} },
		"no input but In": func(p *psbt.Packet) { p.Tx.In = nil },
		"no In":           func(p *psbt.Packet) { p.Ins = nil },
		"an In too few":   func(p *psbt.Packet) { p.Ins = p.Ins[:2] },
		"an In too many":  func(p *psbt.Packet) { p.Ins = append(p.Ins, psbt.In{}) },
		"a Script":        func(p *psbt.Packet) { p.Tx.In[2].Script = []byte{0x51} },
		"a Witness":       func(p *psbt.Packet) { p.Tx.In[0].Witness = [][]byte{nil} },
	} {
		p := full()
		change(&p)
		list[what] = p
	}
	return list
}

// TestP24_1NotValid: everything is ErrForm, whether there is such an input or not, and Encode returns nothing.
func TestP24_1NotValid(t *testing.T) {
	for what, p := range invalid() {
		for _, i := range []int{math.MinInt, -1, 0, 1, 2, 3, 4, math.MaxInt} {
			got, err := p.Update(i, api.TxOut{Value: 1}, []byte{1})
			expectPacket(t, "Update with "+what, got, err, psbt.Packet{}, api.ErrForm)
			got, n, err := p.Sign(i, signer{1})
			expectPacket(t, "Sign with "+what, got, err, psbt.Packet{}, api.ErrForm)
			if n != 0 {
				t.Errorf("Sign with %s: %d", what, n)
			}
			got, err = p.Finalize(i)
			expectPacket(t, "Finalize with "+what, got, err, psbt.Packet{}, api.ErrForm)
		}
		for _, q := range []psbt.Packet{p, full(), created(1), {}} {
			got, err := psbt.Combine(p, q)
			expectPacket(t, "Combine with "+what, got, err, psbt.Packet{}, api.ErrForm)
			got, err = psbt.Combine(q, p)
			expectPacket(t, "Combine, the second one with "+what, got, err, psbt.Packet{}, api.ErrForm)
		}
		if x, err := p.Extract(); err != api.ErrForm || !tx.Same(x, api.Tx{}) {
			t.Errorf("Extract with %s: %+v, error %d", what, x, err)
		}
		if b := p.Encode(); len(b) != 0 {
			t.Errorf("Encode with %s: %x", what, b)
		}
		if !psbt.Same(p, p) || psbt.Same(p, created(2)) || psbt.Same(full(), p) {
			t.Errorf("Same with %s", what)
		}
	}
}

func TestP24_1Update(t *testing.T) {
	out := api.TxOut{Value: 77, Script: []byte("out")}
	a, b, c := []byte("a"), []byte("b"), []byte("c")
	known := func(list ...[]byte) func(in *psbt.In) {
		return func(in *psbt.In) { in.Known, in.Out, in.Inner = true, out, list }
	}
	p := created(3)
	for i := range 3 {
		got, err := p.Update(i, out)
		expectPacket(t, "Update", got, err, with(p, i, known()), api.OK)
		got, err = p.Update(i, out, a, b)
		expectPacket(t, "Update with two inner ones", got, err, with(p, i, known(a, b)), api.OK)
		got, err = got.Update(i, out, c, b, nil, c, a, []byte{})
		expectPacket(t, "Update again", got, err, with(p, i, known(a, b, c, nil)), api.OK)
		got, err = got.Update(i, out)
		expectPacket(t, "Update with nothing new", got, err, with(p, i, known(a, b, c, nil)), api.OK)
	}
	list := [][]byte{b, b, a, b}
	got, err := p.Update(1, out, list...)
	expectPacket(t, "Update with a list", got, err, with(p, 1, known(b, a)), api.OK)
	// An output of nothing is one, too.
	got, err = p.Update(0, api.TxOut{})
	expectPacket(t, "Update with an empty output", got, err, with(p, 0, func(in *psbt.In) { in.Known = true }), api.OK)
	// What isn't Known does not clash; all other parts remain as they are, whatever they are.
	got, err = full().Update(1, out, []byte("inner"), c)
	expectPacket(t, "Update of what isn't Known", got, err, with(full(), 1, known([]byte("inner"), c)), api.OK)
	// Existing ones remain, even if they are there twice.
	twice := with(p, 2, func(in *psbt.In) { in.Inner = [][]byte{a, a, b} })
	got, err = twice.Update(2, out, b, c, a, c)
	expectPacket(t, "Update of the same twice", got, err, with(p, 2, known(a, a, b, c)), api.OK)
}

func TestP24_1UpdateErrors(t *testing.T) {
	out := api.TxOut{Value: 77, Script: []byte("out")}
	p, _ := created(3).Update(1, out, []byte("a"))
	for _, i := range []int{math.MinInt, -1, 3, 4, math.MaxInt} {
		got, err := p.Update(i, out)
		expectPacket(t, "Update of no input", got, err, psbt.Packet{}, api.ErrArg)
	}
	others := []api.TxOut{{Value: 78, Script: []byte("out")}, {Value: 77, Script: []byte("ou")}, {Value: 77}, {}}
	for _, other := range others {
		got, err := p.Update(1, other, []byte("b"))
		expectPacket(t, "Update with another output", got, err, psbt.Packet{}, api.ErrClash)
		got, err = p.Update(0, other)
		expectPacket(t, "Update of another input", got, err, with(p, 0, func(in *psbt.In) { in.Known, in.Out = true, other }), api.OK)
	}
	final := with(p, 1, func(in *psbt.In) { in.Final = true })
	got, err := final.Update(1, out, []byte("b"))
	expectPacket(t, "Update of a Final one", got, err, psbt.Packet{}, api.ErrState)
	got, err = final.Update(1, out)
	expectPacket(t, "Update of a Final one with nothing new", got, err, psbt.Packet{}, api.ErrState)
	got, err = final.Update(1, others[0])
	expectPacket(t, "Update of a Final one with another output", got, err, psbt.Packet{}, api.ErrClash)
	unknown := with(final, 1, func(in *psbt.In) { in.Known = false })
	got, err = unknown.Update(1, others[0])
	expectPacket(t, "Update of a Final one that isn't Known", got, err, psbt.Packet{}, api.ErrState)
	got, err = final.Update(2, out)
	expectPacket(t, "Update beside a Final one", got, err, with(final, 2, func(in *psbt.In) { in.Known, in.Out = true, out }), api.OK)
}
