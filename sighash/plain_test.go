package sighash_test

import (
	"bytes"
	"crypto/sha256"
	"encoding/binary"
	"math"
	"slices"

	"strongbox/api"
)

// fill returns n bytes that tell the places of a list apart.
func fill(n int, seed byte) []byte {
	b := make([]byte, n)
	for i := range b {
		b[i] = seed + byte(i*7)
	}
	return b
}

// digest returns a digest all of whose bytes differ.
func digest(seed byte) api.Hash { return api.Hash(fill(32, seed)) }

// input returns one all of whose parts are told from others by a number.
func input(n int) api.TxIn {
	return api.TxIn{
		Prev:    api.OutPoint{Hash: digest(byte(n)), Index: uint32(n) * 0x01020304},
		Script:  fill(n%5, byte(n+1)),
		Seq:     uint32(n)*0x11111111 + 1,
		Witness: [][]byte{fill(n%3, byte(n+2)), fill(2, byte(n+3))},
	}
}

func output(n int) api.TxOut {
	return api.TxOut{Value: int64(n)*0x0102030405060708 + 1, Script: fill(n%4+1, byte(n+4))}
}

// txOf returns a transaction with so many inputs and outputs.
func txOf(ins, outs int) api.Tx {
	t := api.Tx{Version: 2, Lock: 0x81828384}
	for i := range ins {
		t.In = append(t.In, input(i))
	}
	for i := range outs {
		t.Out = append(t.Out, output(i))
	}
	return t
}

// odd returns a transaction whose numbers are at the ends of their ranges, and whose scripts have sizes of one byte and more.
func odd() api.Tx {
	t := api.Tx{Version: math.MinInt32, Lock: math.MaxUint32}
	for i, seq := range []uint32{0, math.MaxUint32, 1 << 31, 1} {
		in := input(i)
		in.Seq, in.Script = seq, fill(i*100, 3)
		t.In = append(t.In, in)
	}
	t.In[1].Prev = api.OutPoint{}
	t.In[2].Prev = api.OutPoint{Index: math.MaxUint32}
	t.In[3].Prev = t.In[2].Prev
	for i, n := range []int64{0, -1, math.MinInt64, math.MaxInt64} {
		t.Out = append(t.Out, api.TxOut{Value: n, Script: fill([]int{0, 252, 253, 70000}[i], 5)})
	}
	return t
}

// some returns transactions with no, one and several inputs and outputs.
func some() []api.Tx {
	list := []api.Tx{odd(), {}, {Version: -1, In: []api.TxIn{{}}, Out: []api.TxOut{{}}}}
	for _, n := range [][2]int{{0, 1}, {0, 3}, {1, 0}, {1, 1}, {1, 3}, {2, 2}, {3, 0}, {3, 1}, {3, 2}, {4, 6}} {
		list = append(list, txOf(n[0], n[1]))
	}
	for i := range list {
		list[i].Version += int32(i)
	}
	return list
}

// scripts have sizes of one, three and five bytes.
func scripts() [][]byte {
	return [][]byte{nil, {}, {0xac}, {0xab, 0xac}, fill(252, 1), fill(253, 1), fill(65535, 1), fill(65536, 1)}
}

func values() []int64 { return []int64{0, 1, -1, 600000000, math.MaxInt64, math.MinInt64} }

// edges returns the places before, in and behind a list.
func edges(n int) []int {
	list := []int{math.MinInt, math.MinInt32, -2, -1, n, n + 1, 1 << 32, math.MaxInt}
	for i := range n {
		list = append(list, i)
	}
	return list
}

// The models write what is signed byte by byte, as the document says it.

func le32[T int32 | uint32 | byte](n T) []byte {
	return binary.LittleEndian.AppendUint32(nil, uint32(n))
}

func le64(n int64) []byte { return binary.LittleEndian.AppendUint64(nil, uint64(n)) }

func size(n int) []byte {
	switch {
	case n < 253:
		return []byte{byte(n)}
	case n < 65536:
		return []byte{253, byte(n), byte(n >> 8)}
	}
	return append([]byte{254}, le32(uint32(n))...)
}

func sized(b []byte) []byte { return append(size(len(b)), b...) }

func place(p api.OutPoint) []byte { return append(bytes.Clone(p.Hash[:]), le32(p.Index)...) }

func paid(o api.TxOut) []byte { return append(le64(o.Value), sized(o.Script)...) }

func double(parts ...[]byte) api.Hash {
	first := sha256.Sum256(slices.Concat(parts...))
	return sha256.Sum256(first[:])
}

func modelLegacy(t api.Tx, i int, script []byte, kind byte) api.Hash {
	single, none := kind%32 == 3, kind%32 == 2
	if i < 0 || i >= len(t.In) || single && i >= len(t.Out) {
		return api.Hash{1}
	}
	var ins, outs [][]byte
	for j, in := range t.In {
		switch {
		case j == i:
			ins = append(ins, slices.Concat(place(in.Prev), sized(script), le32(in.Seq)))
		case kind >= 128:
		case single || none:
			ins = append(ins, slices.Concat(place(in.Prev), []byte{0}, le32(uint32(0))))
		default:
			ins = append(ins, slices.Concat(place(in.Prev), []byte{0}, le32(in.Seq)))
		}
	}
	for j, out := range t.Out {
		switch {
		case none, single && j > i:
		case single && j < i:
			outs = append(outs, append(bytes.Repeat([]byte{255}, 8), 0))
		default:
			outs = append(outs, paid(out))
		}
	}
	return double(le32(t.Version), size(len(ins)), slices.Concat(ins...), size(len(outs)), slices.Concat(outs...), le32(t.Lock), le32(kind))
}

func modelWitness(t api.Tx, i int, script []byte, value int64, kind byte) api.Hash {
	if i < 0 || i >= len(t.In) {
		return api.Hash{1}
	}
	single, none := kind%32 == 3, kind%32 == 2
	var prevs, seqs, outs []byte
	for _, in := range t.In {
		prevs = append(prevs, place(in.Prev)...)
		seqs = append(seqs, le32(in.Seq)...)
	}
	for j, out := range t.Out {
		if !single || j == i {
			outs = append(outs, paid(out)...)
		}
	}
	p, q, o := double(prevs), double(seqs), double(outs)
	if kind >= 128 {
		p, q = api.Hash{}, api.Hash{}
	}
	if single || none {
		q = api.Hash{}
	}
	if none || single && i >= len(t.Out) {
		o = api.Hash{}
	}
	own := t.In[i]
	return double(le32(t.Version), p[:], q[:], place(own.Prev), sized(script), le64(value), le32(own.Seq), o[:], le32(t.Lock), le32(kind))
}
