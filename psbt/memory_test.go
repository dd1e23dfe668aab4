package psbt_test

import (
	"bytes"
	"fmt"
	"reflect"
	"slices"
	"testing"

	"strongbox/api"
	"strongbox/psbt"
)

// area is the memory of a list, with its spare capacity.
type area struct {
	from, to uintptr
}

// areas returns those of all lists in something.
func areas(v reflect.Value) []area {
	var all []area
	switch v.Kind() {
	case reflect.Slice:
		if size := uintptr(v.Cap()) * v.Type().Elem().Size(); size > 0 {
			all = append(all, area{v.Pointer(), v.Pointer() + size})
		}
		for i := range v.Len() {
			all = append(all, areas(v.Index(i))...)
		}
	case reflect.Struct:
		for i := range v.NumField() {
			all = append(all, areas(v.Field(i))...)
		}
	}
	return all
}

// expectApart: no two lists in all of this share memory.
func expectApart(t *testing.T, what string, list ...any) {
	t.Helper()
	var all []area
	for _, x := range list {
		all = append(all, areas(reflect.ValueOf(x))...)
	}
	slices.SortFunc(all, func(a, b area) int {
		if a.from < b.from {
			return -1
		}
		return 1
	})
	for i := range all[:len(all)-1] {
		if all[i].to > all[i+1].from {
			t.Errorf("%s: two lists share memory", what)
			return
		}
	}
}

// room returns all of something as text, with what is in spare capacity.
func room(x any) string { return fmt.Sprint(roomOf(reflect.ValueOf(x))) }

func roomOf(v reflect.Value) any {
	var all []any
	switch v.Kind() {
	case reflect.Slice:
		all = append(all, v.Len())
		for i := range v.Cap() {
			all = append(all, roomOf(v.Slice(0, v.Cap()).Index(i)))
		}
	case reflect.Struct:
		for i := range v.NumField() {
			all = append(all, roomOf(v.Field(i)))
		}
	default:
		return fmt.Sprint(v)
	}
	return all
}

// scribbler is a Signer that writes to what it is passed, and to what it returned before.
type scribbler struct {
	signer
	last []byte
}

func (s *scribbler) Sign(pub []byte, digest api.Hash) ([]byte, bool) {
	for i := range s.last[:cap(s.last)] {
		s.last[:cap(s.last)][i] = 0xcc
	}
	sig, ok := s.signer.Sign(pub, digest)
	for i := range pub[:cap(pub)] {
		pub[:cap(pub)][i] = 0xdd
	}
	s.last = copyOf(sig, true)
	return s.last, ok
}

// arguments is everything that is passed to the functions.
type arguments struct {
	P, Other, Signed, Final psbt.Packet
	Tx                      api.Tx
	Out                     api.TxOut
	Inner                   [][]byte
	Bytes                   []byte
}

func newArguments(c coin) arguments {
	p := knowing(c)
	p.Ins[0] = full().Ins[1]
	signed, _, _ := p.Sign(1, c.all())
	final, _ := signed.Finalize(1)
	final.Ins[0].Final = true
	other := with(p, 1, func(in *psbt.In) {
		*in = psbt.In{Inner: [][]byte{[]byte("inner")}, Sigs: []psbt.Sig{{Pub: []byte("pub"), Sig: []byte("sig")}}, Final: true, Script: []byte("s"), Witness: [][]byte{[]byte("w")}}
	})
	return copyOf(arguments{p, other, signed, final, p.Tx, c.out(), append(slices.Clone(c.inner), []byte("more")), final.Encode()}, true)
}

// calls calls everything, and returns the results.
func (a arguments) calls(c coin) []any {
	created, _ := psbt.Create(a.Tx)
	updated, _ := a.P.Update(1, a.Out, a.Inner...)
	first, _ := a.P.Update(0, a.Out, a.Inner...)
	signed, _, _ := a.P.Sign(1, &scribbler{signer: c.all()})
	unsigned, _, _ := a.P.Sign(1, signer{20})
	combined, _ := psbt.Combine(a.P, a.Other)
	turned, _ := psbt.Combine(a.Other, a.P)
	same, _ := psbt.Combine(a.P, a.P)
	final, _ := a.Signed.Finalize(1)
	x, _ := a.Final.Extract()
	decoded, _ := psbt.Decode(a.Bytes)
	return []any{created, updated, first, signed, unsigned, combined, turned, same, final, x, a.Final.Encode(), decoded}
}

// failing calls everything that ends with an error, and what returns no lists.
func (a arguments) failing() {
	a.P.Update(7, a.Out, a.Inner...)
	a.P.Update(1, api.TxOut{Value: 1}, a.Inner...)
	a.Other.Update(1, a.Out, a.Inner...)
	a.Final.Sign(1, signer{1})
	a.P.Finalize(1)
	a.P.Extract()
	psbt.Combine(a.P, created(5))
	psbt.Decode(a.Bytes[:len(a.Bytes)-1])
	psbt.Same(a.P, a.Other)
}

// TestP24_5Memory: nothing that is passed is changed, with its spare capacity, or shares memory with a result; nor do two results, or two lists of one.
func TestP24_5Memory(t *testing.T) {
	for _, c := range coins() {
		a := newArguments(c)
		before := room(a)
		one, two := a.calls(c), a.calls(c)
		a.failing()
		if room(a) != before {
			t.Errorf("%s: an argument was changed", c.name)
		}
		expectApart(t, c.name, append(append([]any{a}, one...), two...)...)
		for i := range one {
			if fmt.Sprint(one[i]) != fmt.Sprint(two[i]) {
				t.Errorf("%s: result %d is another one at the second call", c.name, i)
			}
		}
	}
}

// TestP24_5Signer: what a Signer writes to what it is passed, or to what it returned, is not seen in the packet.
func TestP24_5Signer(t *testing.T) {
	for _, c := range coins() {
		want, n, _ := knowing(c).Sign(1, c.all())
		got, m, err := knowing(c).Sign(1, &scribbler{signer: c.all()})
		if !psbt.Same(got, want) || n != m || err != api.OK {
			t.Errorf("%s: %d, error %d", c.name, m, err)
		}
		var all [][]byte
		keep := answer(func(pub []byte, digest api.Hash) ([]byte, bool) {
			sig, ok := c.all().Sign(pub, digest)
			all = append(all, pub, sig)
			return sig, ok
		})
		got, _, _ = knowing(c).Sign(1, keep)
		expectApart(t, c.name, all, got)
		for _, b := range all {
			clear(b)
		}
		if !psbt.Same(got, want) || bytes.Equal(all[0], got.Ins[1].Sigs[0].Pub) {
			t.Errorf("%s: the packet shares memory with what a Signer has", c.name)
		}
	}
}
