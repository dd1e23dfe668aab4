package wire_test

import (
	"bytes"
	"fmt"
	"math"
	"testing"

	"strongbox/api"
	"strongbox/wire"
)

// call is one call of a Reader; what it answers is put as text, so that all of them can be compared.
type call struct {
	name string
	ask  func(r *wire.Reader) string
}

func number[T any](n T) string { return fmt.Sprint(n) }
func list(b []byte) string     { return fmt.Sprintf("[%x]", b) }
func empty(answer string) bool { return answer == "0" || answer == "[]" }
func rawCall(n int) call {
	return call{fmt.Sprint("Raw ", n), func(r *wire.Reader) string { return list(r.Raw(n)) }}
}
func bytesCall(most int) call {
	return call{fmt.Sprint("Bytes ", most), func(r *wire.Reader) string { return list(r.Bytes(most)) }}
}
func openText(s string) *wire.Reader { return wire.Open([]byte(s)) }

func numberCalls() []call {
	return []call{
		{"U8", func(r *wire.Reader) string { return number(r.U8()) }},
		{"U16", func(r *wire.Reader) string { return number(r.U16()) }},
		{"U32", func(r *wire.Reader) string { return number(r.U32()) }},
		{"U64", func(r *wire.Reader) string { return number(r.U64()) }},
		{"Size", func(r *wire.Reader) string { return number(r.Size()) }},
	}
}

func allCalls() []call {
	return append(numberCalls(), rawCall(-1), rawCall(0), rawCall(1), rawCall(2), rawCall(math.MaxInt),
		bytesCall(-1), bytesCall(0), bytesCall(1), bytesCall(2), bytesCall(math.MaxInt))
}

// expect reads s by one call.
func expect(t *testing.T, s string, c call, answer string, err api.Errno, left int) {
	t.Helper()
	r := openText(s)
	got := c.ask(r)
	if got != answer || r.Err() != err || r.Left() != left {
		t.Errorf("%s of %x: %s, error %d, left %d; want %s, %d, %d", c.name, s, got, r.Err(), r.Left(), answer, err, left)
	}
}

func TestP1_2Numbers(t *testing.T) {
	s := "\x01\x82\x03\x04\x05\x06\x07\x88\x09"
	calls := numberCalls()
	expect(t, s, calls[0], number(0x01), api.OK, 8)
	expect(t, s, calls[1], number(0x8201), api.OK, 7)
	expect(t, s, calls[2], number(0x04038201), api.OK, 5)
	expect(t, s, calls[3], number(uint64(0x8807060504038201)), api.OK, 1)
	r := openText(s)
	if a, b, c, d := r.U16(), r.U32(), r.U8(), r.U16(); a != 0x8201 || b != 0x06050403 || c != 7 || d != 0x0988 || r.Close() != api.OK {
		t.Errorf("one behind the other: %x, %x, %x, %x, error %d", a, b, c, d, r.Close())
	}
}

func TestP1_2EndsTooEarly(t *testing.T) {
	full := "\x81\x82\x83\x84\x85\x86\x87\x88"
	widths := []int{1, 2, 4, 8}
	for i, c := range numberCalls()[:4] {
		for n := range widths[i] {
			expect(t, full[:n], c, "0", api.ErrEnd, n)
		}
	}
	for _, e := range sizeEdges {
		for n := range len(e.hex) {
			expect(t, e.hex[:n], numberCalls()[4], "0", api.ErrEnd, n)
			expect(t, e.hex[:n], bytesCall(math.MaxInt), "[]", api.ErrEnd, n)
		}
	}
	for n := range len(full) {
		expect(t, full[:n], rawCall(len(full)), "[]", api.ErrEnd, n)
		expect(t, "\x08"+full[:n], bytesCall(8), "[]", api.ErrEnd, n+1)
	}
	expect(t, full, rawCall(math.MaxInt), "[]", api.ErrEnd, 8)
}

func TestP1_2Raw(t *testing.T) {
	expect(t, "abc", rawCall(2), "[6162]", api.OK, 1)
	expect(t, "abc", rawCall(3), "[616263]", api.OK, 0)
	for _, n := range []int{0, -1, -3, math.MinInt} {
		expect(t, "abc", rawCall(n), "[]", api.OK, 3)
		expect(t, "", rawCall(n), "[]", api.OK, 0)
	}
}

func TestP1_2Sizes(t *testing.T) {
	size := numberCalls()[4]
	for _, e := range sizeEdges {
		if e.n > api.MaxSize {
			expect(t, e.hex, size, "0", api.ErrSize, len(e.hex))
			continue
		}
		expect(t, e.hex+"\xff", size, number(e.n), api.OK, 1)
	}
	for _, s := range []string{"\xfe\x01\x00\x00\x02", "\xff\xff\xff\xff\xff\xff\xff\xff\x7f"} {
		expect(t, s, size, "0", api.ErrSize, len(s))
	}
	longer := []string{
		"\xfd\x00\x00", "\xfd\x01\x00", "\xfd\xfc\x00",
		"\xfe\x00\x00\x00\x00", "\xfe\xfd\x00\x00\x00", "\xfe\xff\xff\x00\x00",
		"\xff\x00\x00\x00\x00\x00\x00\x00\x00", "\xff\x00\x00\x01\x00\x00\x00\x00\x00",
		// Greater than MaxSize, too.
		"\xff\x01\x00\x00\x02\x00\x00\x00\x00", "\xff\xff\xff\xff\xff\x00\x00\x00\x00",
	}
	for _, s := range longer {
		expect(t, s, size, "0", api.ErrForm, len(s))
		expect(t, s, bytesCall(-1), "[]", api.ErrForm, len(s))
	}
}

func TestP1_2Bytes(t *testing.T) {
	expect(t, "\x03abcd", bytesCall(3), "[616263]", api.OK, 1)
	expect(t, "\x03abcd", bytesCall(4), "[616263]", api.OK, 1)
	expect(t, "\x00a", bytesCall(0), "[]", api.OK, 1)
	expect(t, "\x04abcd", bytesCall(3), "[]", api.ErrSize, 5)
	expect(t, "\x01a", bytesCall(0), "[]", api.ErrSize, 2)
	expect(t, "\x00", bytesCall(-1), "[]", api.ErrSize, 1)
	expect(t, "\x00", bytesCall(math.MinInt), "[]", api.ErrSize, 1)
	// What is longer than asked for is told ahead of bytes that end too early.
	expect(t, "\x04ab", bytesCall(3), "[]", api.ErrSize, 3)
	expect(t, "\xfe\x00\x00\x00\x02", bytesCall(1<<25-1), "[]", api.ErrSize, 5)
	expect(t, "\xfe\x00\x00\x00\x02", bytesCall(1<<25), "[]", api.ErrEnd, 5)
	expect(t, "\xfe\x01\x00\x00\x02", bytesCall(math.MaxInt), "[]", api.ErrSize, 5)
}

func TestP1_2GreatestList(t *testing.T) {
	want := bytes.Repeat([]byte{5}, api.MaxSize)
	var w wire.Writer
	w.Bytes(want)
	r := wire.Open(w.Out())
	if got := r.Bytes(api.MaxSize); !bytes.Equal(got, want) || r.Close() != api.OK {
		t.Errorf("%d bytes, error %d", len(got), r.Close())
	}
}

func TestP1_2FirstErrorRemains(t *testing.T) {
	failures := []struct {
		c   call
		s   string
		err api.Errno
	}{
		{rawCall(9), "\x01\x02\x03\x04", api.ErrEnd},
		{numberCalls()[3], "\x01\x02\x03\x04", api.ErrEnd},
		{numberCalls()[4], "\xfd\x01\x00\x04", api.ErrForm},
		{bytesCall(1), "\x02\x02\x03\x04", api.ErrSize},
		{bytesCall(9), "\x05\x02\x03\x04", api.ErrEnd},
	}
	for _, f := range failures {
		r := openText("\x07" + f.s)
		if r.U8() != 7 || r.Err() != api.OK {
			t.Fatalf("the first byte of %x", f.s)
		}
		f.c.ask(r)
		for _, c := range allCalls() {
			answer := c.ask(r)
			if !empty(answer) || r.Err() != f.err || r.Close() != f.err || r.Left() != 4 {
				t.Errorf("%s behind %s of %x: %s, error %d, left %d", c.name, f.c.name, f.s, answer, r.Err(), r.Left())
			}
		}
	}
}

func TestP1_2Close(t *testing.T) {
	r := openText("ab")
	if e := r.Close(); e != api.ErrForm {
		t.Errorf("two bytes remain: %d", e)
	}
	// That bytes remain is no read's error.
	if n := r.U16(); n != 0x6261 || r.Err() != api.OK || r.Close() != api.OK {
		t.Errorf("behind Close: %x, %d, %d", n, r.Err(), r.Close())
	}
	if r.U8(); r.Err() != api.ErrEnd || r.Close() != api.ErrEnd {
		t.Errorf("behind the end: %d, %d", r.Err(), r.Close())
	}
}

func TestP1_2ZeroReader(t *testing.T) {
	for _, c := range allCalls() {
		var zero wire.Reader
		if zero.Left() != 0 || zero.Err() != api.OK || zero.Close() != api.OK {
			t.Fatalf("the zero Reader has bytes or an error")
		}
		none := wire.Open(nil)
		if a, b := c.ask(&zero), c.ask(none); a != b || !empty(a) || zero.Err() != none.Err() {
			t.Errorf("%s of nothing: %s and %s, errors %d and %d", c.name, a, b, zero.Err(), none.Err())
		}
	}
}

// plainSize reads a compact size as the document says it, and tells its length.
func plainSize(b []byte) (n uint64, length int, err api.Errno) {
	if len(b) == 0 {
		return 0, 0, api.ErrEnd
	}
	length = 1
	least := uint64(0)
	switch b[0] {
	case 253:
		length, least = 3, 253
	case 254:
		length, least = 5, 1<<16
	case 255:
		length, least = 9, 1<<32
	default:
		return uint64(b[0]), 1, api.OK
	}
	if len(b) < length {
		return 0, 0, api.ErrEnd
	}
	for i := length - 1; i > 0; i-- {
		n = n<<8 | uint64(b[i])
	}
	if n < least {
		return 0, 0, api.ErrForm
	}
	if n > api.MaxSize {
		return 0, 0, api.ErrSize
	}
	return n, length, api.OK
}

// TestP1_2AnyBytes reads sizes and lists of many short messages.
func TestP1_2AnyBytes(t *testing.T) {
	letters := []byte{0, 1, 2, 252, 253, 254, 255}
	messages := [][]byte{{}}
	for i := 0; i < len(messages) && len(messages[i]) < 5; i++ {
		for _, l := range letters {
			messages = append(messages, append(bytes.Clone(messages[i]), l))
		}
	}
	for _, m := range messages {
		n, length, err := plainSize(m)
		expect(t, string(m), numberCalls()[4], number(n), err, len(m)-length)
		answer, left := "[]", len(m)
		switch end := length + int(n); {
		case err != api.OK:
		case n > 2:
			err = api.ErrSize
		case end > len(m):
			err = api.ErrEnd
		default:
			answer, left = list(m[length:end]), len(m)-end
		}
		expect(t, string(m), bytesCall(2), answer, err, left)
	}
}

func TestP1_3ReadAgain(t *testing.T) {
	var w wire.Writer
	for _, e := range sizeEdges {
		w.U8(byte(e.n))
		w.U16(uint16(e.n))
		w.U32(uint32(e.n))
		w.U64(e.n)
		w.Size(min(e.n, api.MaxSize))
		w.Bytes([]byte(e.hex))
		w.Raw([]byte(e.hex)...)
	}
	r := wire.Open(w.Out())
	for _, e := range sizeEdges {
		numbers := r.U8() == byte(e.n) && r.U16() == uint16(e.n) && r.U32() == uint32(e.n) && r.U64() == e.n
		size := r.Size() == min(e.n, api.MaxSize)
		lists := string(r.Bytes(9)) == e.hex && string(r.Raw(len(e.hex))) == e.hex
		if !numbers || !size || !lists {
			t.Fatalf("%d is read otherwise: %v, %v, %v, error %d", e.n, numbers, size, lists, r.Err())
		}
	}
	if e := r.Close(); e != api.OK {
		t.Errorf("at the end: %d", e)
	}
}

func TestP1_3OneEncoding(t *testing.T) {
	for mark, width := range map[byte]int{253: 2, 254: 4, 255: 8} {
		for _, edge := range sizeEdges {
			for _, n := range []uint64{edge.n - 1, edge.n, edge.n + 1} {
				s := []byte{mark}
				for i := range width {
					s = append(s, byte(n>>(8*i)))
				}
				r := wire.Open(s)
				got := r.Size()
				if r.Err() != api.OK {
					continue
				}
				if again := written(func(w *wire.Writer) { w.Size(got) }); !bytes.Equal(again, s) {
					t.Errorf("%x is read as %d, which is written %x", s, got, again)
				}
			}
		}
	}
}

func TestP1_4ReaderMemory(t *testing.T) {
	given := []byte("abc\x03defgh")
	r := wire.Open(given[:len(given)-1])
	copy(given, "XXXXXXXXX")
	raw := r.Raw(3)
	_ = append(raw, 'Y')
	inner := r.Bytes(3)
	_ = append(inner, 'Z')
	copy(raw, "UUU")
	if string(inner) != "def" {
		t.Errorf("two results share memory, or the argument was kept: %q", inner)
	}
	if n := r.U8(); n != 'g' || r.Close() != api.OK {
		t.Errorf("a result shares memory with the reader: %q, error %d", n, r.Close())
	}
	if string(given) != "XXXXXXXXX" {
		t.Errorf("the argument was changed: %q", given)
	}
}
