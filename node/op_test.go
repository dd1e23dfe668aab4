package node_test

import (
	"bytes"
	"fmt"
	"math"
	"math/rand"
	"slices"
	"strings"
	"testing"

	"strongbox/api"
	"strongbox/node"
	"strongbox/spend"
)

// full returns an operation with everything.
func full(r *rand.Rand, kind int) node.Op {
	wild := func() int64 {
		return []int64{math.MinInt64, -1, 0, 1, 255, 1 << 32, math.MaxInt64, r.Int63(), -r.Int63n(1000)}[r.Intn(9)]
	}
	some := func() []byte {
		b := make([]byte, []int{0, 1, 32, 252, 253, 254, 1000}[r.Intn(7)])
		r.Read(b)
		return b
	}
	o := node.Op{Kind: kind, Data: some(), Text: string(some()), N: int(wild()), On: r.Intn(2) == 0, Place: api.OutPoint{Index: uint32(wild())}, Rate: wild()}
	r.Read(o.Id[:])
	r.Read(o.Place.Hash[:])
	o.Order = spend.Order{Rate: wild(), Way: int(wild()), Seed: r.Uint64(), Change: int(wild())}
	for range r.Intn(5) {
		o.Order.Pay = append(o.Order.Pay, api.TxOut{Value: wild(), Script: some()})
	}
	return o
}

// used returns an operation with what its Kind uses only, and how many bytes that has of Data, Text and Scripts.
func used(o node.Op) (node.Op, int) {
	u := node.Op{Kind: o.Kind}
	switch o.Kind {
	case node.Block, node.Tx:
		u.Data = o.Data
	case node.Desc:
		u.Text = o.Text
	case node.Take, node.Rescan:
		u.N = o.N
	case node.Send:
		u.Order = o.Order
	case node.Bump:
		u.Id, u.Rate = o.Id, o.Rate
	case node.Abandon:
		u.Id = o.Id
	case node.Lock:
		u.Place, u.On = o.Place, o.On
	case node.Label:
		u.Data, u.Text = o.Data, o.Text
	}
	n := len(u.Data) + len(u.Text)
	for _, p := range u.Order.Pay {
		n += len(p.Script)
	}
	return u, n
}

// expectBytes: an operation as bytes is read again, with what it uses.
func expectBytes(t *testing.T, o node.Op) []byte {
	t.Helper()
	want, n := used(o)
	b := o.Bytes()
	got, err := node.Read(b)
	if err != api.OK || fmt.Sprint(got) != fmt.Sprint(want) {
		t.Errorf("Read = %.500v, error %d; want %.500v", got, err, want)
	}
	if most := n + 200 + 50*len(want.Order.Pay); len(b) > most || len(b) == 0 {
		t.Errorf("the kind %d: %d bytes, at most %d", o.Kind, len(b), most)
	}
	if !bytes.Equal(b, want.Bytes()) {
		t.Errorf("the kind %d: what isn't used is stored", o.Kind)
	}
	return b
}

// TestP26_7Bytes: operations of all kinds, with all kinds of numbers.
func TestP26_7Bytes(t *testing.T) {
	r := rand.New(rand.NewSource(267))
	for kind := node.Block; kind <= node.Label; kind++ {
		expectBytes(t, node.Op{Kind: kind})
		for range 200 {
			expectBytes(t, full(r, kind))
		}
	}
	for _, kind := range []int{math.MinInt, -1, 0, 11, 12, 255, 256, 257, 1<<32 + 1, math.MaxInt} {
		if b := full(r, kind).Bytes(); len(b) != 0 {
			t.Errorf("the kind %d: %x", kind, b)
		}
	}
}

// TestP26_7Different: no two operations are the same bytes.
func TestP26_7Different(t *testing.T) {
	r := rand.New(rand.NewSource(7))
	seen := map[string]string{}
	for range 3000 {
		o := full(r, 1+r.Intn(10))
		u, _ := used(o)
		b := string(o.Bytes())
		if s, ok := seen[b]; ok && s != fmt.Sprint(u) {
			t.Errorf("%v and %s are the same bytes", u, s)
		}
		seen[b] = fmt.Sprint(u)
	}
}

// TestP26_7Limits: how much an operation can have.
func TestP26_7Limits(t *testing.T) {
	data := func(n int) node.Op { return node.Op{Kind: node.Block, Data: make([]byte, n)} }
	sent := func(sizes ...int) node.Op {
		o := node.Op{Kind: node.Send}
		for _, n := range sizes {
			o.Order.Pay = append(o.Order.Pay, pay(make([]byte, n), 1)...)
		}
		return o
	}
	with := func(o node.Op, kind int) node.Op {
		o.Kind = kind
		return o
	}
	text := func(n int) node.Op { return node.Op{Kind: node.Desc, Text: strings.Repeat("x", n)} }
	both := func(n, m int) node.Op {
		return node.Op{Kind: node.Label, Data: make([]byte, n), Text: strings.Repeat("x", m)}
	}
	for i, c := range []struct {
		o    node.Op
		fits bool
	}{
		{data(60000), true}, {data(60001), false}, {data(100000), false}, {with(data(60000), node.Tx), true}, {with(data(60001), node.Tx), false},
		{text(60000), true}, {text(60001), false}, {with(data(60001), node.Desc), true}, {with(text(60001), node.Block), true},
		{both(60000, 60000), true}, {both(60001, 0), false}, {both(0, 60001), false}, {both(60001, 60001), false},
		{sent(60000), true}, {sent(60001), false}, {sent(30000, 30000), true}, {sent(30000, 30001), false}, {sent(30001, 30000), false}, {sent(60001, 0), false}, {sent(0, 60001), false}, {sent(20000, 20000, 20000, 0), true}, {sent(20000, 20000, 20000, 1), false},
		{sent(make([]int, 200)...), true}, {sent(make([]int, 201)...), false}, {sent(make([]int, 100000)...), false}, {sent(slices.Repeat([]int{300}, 200)...), true}, {sent(append(slices.Repeat([]int{300}, 199), 301)...), false},
	} {
		if b := c.o.Bytes(); (len(b) > 0) != c.fits {
			t.Errorf("%d: %d bytes", i, len(b))
		}
		if c.fits {
			expectBytes(t, c.o)
		}
	}
}

// TestP26_7Read: bytes that are not an operation are one of three errors; every operation has one form as bytes.
func TestP26_7Read(t *testing.T) {
	r := rand.New(rand.NewSource(26))
	wrong := map[api.Errno]int{}
	read := func(b []byte) api.Errno {
		t.Helper()
		o, err := node.Read(b)
		wrong[err]++
		switch err {
		case api.OK:
			if got := o.Bytes(); !bytes.Equal(got, b) {
				t.Errorf("%x is read, but is written as %x", b, got)
			}
		case api.ErrForm, api.ErrEnd, api.ErrSize:
			if fmt.Sprint(o) != fmt.Sprint(node.Op{}) {
				t.Errorf("%v beside an error", o)
			}
		default:
			t.Errorf("%x: error %d", b, err)
		}
		return err
	}
	if err := read(nil); err != api.ErrEnd {
		t.Errorf("no bytes: error %d", err)
	}
	for kind := range 256 {
		if err := read([]byte{byte(kind)}); err == api.OK {
			t.Errorf("the byte %d is an operation", kind)
		}
	}
	for kind := node.Block; kind <= node.Label; kind++ {
		for range 20 {
			b := full(r, kind).Bytes()
			for n := range min(len(b), 400) {
				if err := read(b[:n]); err != api.ErrEnd {
					t.Errorf("the kind %d, %d bytes: error %d", kind, n, err)
				}
			}
			if err := read(append(slices.Clone(b), 0)); err != api.ErrForm {
				t.Errorf("the kind %d, a byte more: error %d", kind, err)
			}
			for range 200 {
				c := slices.Clone(b)
				c[r.Intn(min(len(c), 60))] = byte(r.Intn(256))
				read(c)
			}
		}
	}
	for range 20000 {
		b := make([]byte, r.Intn(60))
		r.Read(b)
		if len(b) > 0 {
			b[0] = byte(r.Intn(12))
		}
		read(b)
	}
	if len(wrong) != 4 {
		t.Errorf("only these errors: %v", wrong)
	}
}

// TestP26_7TooLong: what could not be stored is not read either.
func TestP26_7TooLong(t *testing.T) {
	for _, kind := range []int{node.Block, node.Tx, node.Desc, node.Label} {
		for n, want := range map[int]api.Errno{60000: api.OK, 60001: api.ErrSize, 65535: api.ErrSize} {
			b := slices.Concat([]byte{byte(kind), 253, byte(n), byte(n >> 8)}, make([]byte, n))
			if kind == node.Label {
				b = append(b, 0)
			}
			if _, err := node.Read(b); err != want {
				t.Errorf("the kind %d, %d bytes: error %d; want %d", kind, n, err, want)
			}
		}
	}
}

// TestP26_7Memory: what is passed isn't changed, and shares no memory with a result.
func TestP26_7Memory(t *testing.T) {
	r := rand.New(rand.NewSource(77))
	for kind := node.Block; kind <= node.Label; kind++ {
		for range 30 {
			o := roomy(full(r, kind))
			before := whole(o)
			b, c := o.Bytes(), o.Bytes()
			x, _ := node.Read(b)
			y, _ := node.Read(b)
			if whole(o) != before || !bytes.Equal(b, c) {
				t.Errorf("the kind %d: an argument was changed", kind)
			}
			expectApart(t, fmt.Sprint("the kind ", kind), o, b, c, x, y)
		}
	}
}
