package wire_test

import (
	"bytes"
	"math"
	"testing"

	"strongbox/wire"
)

// written returns what a new Writer has after write.
func written(write func(w *wire.Writer)) []byte {
	var w wire.Writer
	write(&w)
	return w.Out()
}

// sizeEdges: where a compact size gets longer, and the number of its bytes.
var sizeEdges = []struct {
	n      uint64
	length int
	hex    string
}{
	{0, 1, "\x00"},
	{1, 1, "\x01"},
	{252, 1, "\xfc"},
	{253, 3, "\xfd\xfd\x00"},
	{254, 3, "\xfd\xfe\x00"},
	{255, 3, "\xfd\xff\x00"},
	{256, 3, "\xfd\x00\x01"},
	{65535, 3, "\xfd\xff\xff"},
	{65536, 5, "\xfe\x00\x00\x01\x00"},
	{70000, 5, "\xfe\x70\x11\x01\x00"},
	{1 << 25, 5, "\xfe\x00\x00\x00\x02"},
	{1<<32 - 1, 5, "\xfe\xff\xff\xff\xff"},
	{1 << 32, 9, "\xff\x00\x00\x00\x00\x01\x00\x00\x00"},
	{math.MaxUint64, 9, "\xff\xff\xff\xff\xff\xff\xff\xff\xff"},
}

func TestP1_1Numbers(t *testing.T) {
	cases := []struct {
		name  string
		write func(w *wire.Writer)
		want  string
	}{
		{"nothing", func(w *wire.Writer) {}, ""},
		{"U8", func(w *wire.Writer) { w.U8(0x81) }, "\x81"},
		{"U16", func(w *wire.Writer) { w.U16(0x8102) }, "\x02\x81"},
		{"U32", func(w *wire.Writer) { w.U32(0x81020304) }, "\x04\x03\x02\x81"},
		{"U64", func(w *wire.Writer) { w.U64(0x8102030405060708) }, "\x08\x07\x06\x05\x04\x03\x02\x81"},
		{"zeros", func(w *wire.Writer) { w.U8(0); w.U16(0); w.U32(0); w.U64(0) }, string(make([]byte, 15))},
		{"Raw", func(w *wire.Writer) { w.Raw(3, 1, 2) }, "\x03\x01\x02"},
		{"Raw of none", func(w *wire.Writer) { w.Raw(); w.Raw([]byte{}...) }, ""},
		{"Bytes", func(w *wire.Writer) { w.Bytes([]byte("abc")) }, "\x03abc"},
		{"Bytes of none", func(w *wire.Writer) { w.Bytes(nil); w.Bytes([]byte{}) }, "\x00\x00"},
		{"one behind the other", func(w *wire.Writer) { w.U16(1); w.Raw(2); w.Size(300); w.U8(3) }, "\x01\x00\x02\xfd\x2c\x01\x03"},
	}
	for _, c := range cases {
		if got := written(c.write); string(got) != c.want {
			t.Errorf("%s: %x, want %x", c.name, got, c.want)
		}
	}
}

func TestP1_1Sizes(t *testing.T) {
	for _, e := range sizeEdges {
		got := written(func(w *wire.Writer) { w.Size(e.n) })
		if string(got) != e.hex {
			t.Errorf("Size(%d) = %x, want %x", e.n, got, e.hex)
		}
		if n := wire.Length(e.n); n != e.length {
			t.Errorf("Length(%d) = %d, want %d", e.n, n, e.length)
		}
	}
}

func TestP1_1Lists(t *testing.T) {
	for _, n := range []int{0, 1, 252, 253, 254, 65535, 65536} {
		list := bytes.Repeat([]byte{7}, n)
		got := written(func(w *wire.Writer) { w.Bytes(list) })
		want := append(written(func(w *wire.Writer) { w.Size(uint64(n)) }), list...)
		if !bytes.Equal(got, want) {
			t.Errorf("Bytes of %d bytes begins with %x", n, got[:min(len(got), 6)])
		}
	}
}

func TestP1_1OutAndMore(t *testing.T) {
	var w wire.Writer
	w.U8(1)
	if first := w.Out(); string(first) != "\x01" {
		t.Errorf("first %x", first)
	}
	w.U8(2)
	for range 2 {
		if again := w.Out(); string(again) != "\x01\x02" {
			t.Errorf("again %x", again)
		}
	}
}

func TestP1_4WriterMemory(t *testing.T) {
	var w wire.Writer
	room := []byte("abcdefgh")
	w.Raw(room[:2]...)
	w.Bytes(room[2:4])
	if string(room) != "abcdefgh" {
		t.Errorf("an argument was changed: %q", room)
	}
	copy(room, "XXXXXXXX")
	first := w.Out()
	if string(first) != "ab\x02cd" {
		t.Errorf("an argument was kept: %q", first)
	}
	copy(first, "XXXXX")
	second := w.Out()
	_ = append(second, 'Y')
	w.U8('e')
	if string(second) != "ab\x02cd" {
		t.Errorf("two results share memory: %q", second)
	}
	if third := w.Out(); string(third) != "ab\x02cde" {
		t.Errorf("a result shares memory with the writer: %q", third)
	}
}
