package play_test

import (
	"bytes"
	"fmt"
	"math"
	"math/rand"
	"slices"
	"testing"

	"strongbox/play"
)

// expectSteps: a script has these steps.
func expectSteps(t *testing.T, script []byte, want ...play.Step) {
	t.Helper()
	got := play.Steps(script)
	if fmt.Sprint(got) != fmt.Sprint(want) {
		t.Errorf("Steps(%x) = %v; want %v", script, got, want)
	}
}

// shaped returns for each code a step that has all that it can have, and its bytes.
func shaped() map[string]play.Step {
	return map[string]play.Step{
		"\x00\x85":                             {Code: 0, A: 0x85},
		"\x01\x03abc":                          {Code: 1, Data: []byte("abc")},
		"\x02\x02\xfe\xff":                     {Code: 2, Data: []byte{254, 255}},
		"\x03\xff":                             {Code: 3, A: 255},
		"\x04\x01":                             {Code: 4, A: 1},
		"\x05\x81\x02\x03\x84\x85\x06\x87":     {Code: 5, A: 0x84030281, B: 0x0685, C: 0x87},
		"\x06\x81\x02\x83":                     {Code: 6, A: 0x81, B: 0x8302},
		"\x07\x10":                             {Code: 7, A: 16},
		"\x08\x11":                             {Code: 8, A: 17},
		"\x09\x12":                             {Code: 9, A: 18},
		"\x0a\x13\x04rent":                     {Code: 10, A: 19, Data: []byte("rent")},
		"\x0b":                                 {Code: 11},
		"\x0c\x14\x95":                         {Code: 12, A: 20, B: 0x95},
		"\x0d\x15":                             {Code: 13, A: 21},
		"\x0e":                                 {Code: 14},
		"\x0f\x16":                             {Code: 15, A: 22},
		"\x01\x00":                             {Code: 1},
		"\x01\xfd\xfd\x00" + filled(253):       {Code: 1, Data: []byte(filled(253))},
		"\x0a\x07\xfd\xd0\x07" + filled(2000):  {Code: 10, A: 7, Data: []byte(filled(2000))},
		"\x05\xff\xff\xff\xff\xff\xff\xff":     {Code: 5, A: math.MaxUint32, B: math.MaxUint16, C: math.MaxUint8},
		"\x05\x00\x00\x00\x00\x00\x00\x00":     {Code: 5},
		"\x05\x01\x00\x00\x00\x00\x01\x00":     {Code: 5, A: 1, B: 256},
		"\x02\xfc" + filled(252):               {Code: 2, Data: []byte(filled(252))},
		"\x0a\xff\x01\x00":                     {Code: 10, A: 255, Data: []byte{0}},
		"\x06\x00\xff\xff":                     {Code: 6, B: math.MaxUint16},
		"\x0c\xff\xff":                         {Code: 12, A: 255, B: 255},
		"\x02\xfd\xcf\x07" + filled(1999):      {Code: 2, Data: []byte(filled(1999))},
		"\x05\x40\x42\x0f\x00\xe8\x03\x00":     {Code: 5, A: 1000000, B: 1000},
		"\x05\x00\x00\x00\x80\x00\x80\x80":     {Code: 5, A: 1 << 31, B: 1 << 15, C: 1 << 7},
		"\x0a\x00\xfd\x00\x01" + filled(0x100): {Code: 10, Data: []byte(filled(0x100))},
	}
}

func filled(n int) string { return string(bytes.Repeat([]byte{'x'}, n)) }

// TestP27_1Shapes: what each code has, whatever its four greater bits are, and whatever is missing at the end.
func TestP27_1Shapes(t *testing.T) {
	var whole []byte
	var all []play.Step
	for b, s := range shaped() {
		script := []byte(b)
		if got := s.Bytes(); !bytes.Equal(got, script) {
			t.Errorf("%v has the bytes %x; want %x", s, got, script)
		}
		expectSteps(t, script, s)
		for high := range byte(16) {
			script[0] = b[0] + high*16
			expectSteps(t, script, s)
		}
		for n := range len(b) {
			expectSteps(t, []byte(b[:n]))
			expectSteps(t, []byte("\x0e\x00\x03"+b[:n]), play.Step{Code: 14}, play.Step{Code: 0, A: 3})
		}
		whole, all = append(whole, b...), append(all, s)
	}
	expectSteps(t, whole, all...)
	expectSteps(t, nil)
	expectSteps(t, []byte{})
}

// TestP27_1Size: a size that is too great ends the script, and so does what is no size.
func TestP27_1Size(t *testing.T) {
	for _, code := range []string{"\x01", "\x02", "\x0a\x07"} {
		for _, size := range []string{"\xfd\xd1\x07", "\xfd\xff\xff", "\xfe\xd0\x07\x00\x00", "\xfe\x00\x00\x01\x00", "\xff\x01\x00\x00\x00\x00\x00\x00\x00", "\xff\xff\xff\xff\xff\xff\xff\xff\xff", "\xfd\xfc\x00", "\xfd\x03\x00"} {
			expectSteps(t, []byte("\x0b"+code+size+filled(70000)), play.Step{Code: 11})
		}
	}
}

// TestP27_1Bytes: what a step can't have is not in its bytes, and too great numbers count modulo their widths.
func TestP27_1Bytes(t *testing.T) {
	for _, c := range []struct {
		step play.Step
		want string
	}{
		{play.Step{Code: 11, A: 1, B: 2, C: 3, Data: []byte("abc")}, "\x0b"},
		{play.Step{Code: 14, A: 1, B: 2, C: 3, Data: []byte("abc")}, "\x0e"},
		{play.Step{Code: 0, A: 1, B: 2, C: 3, Data: []byte("abc")}, "\x00\x01"},
		{play.Step{Code: 1, A: 1, B: 2, C: 3, Data: []byte("abc")}, "\x01\x03abc"},
		{play.Step{Code: 6, A: 1, B: 2, C: 3, Data: []byte("abc")}, "\x06\x01\x02\x00"},
		{play.Step{Code: 12, A: 1, B: 2, C: 3, Data: []byte("abc")}, "\x0c\x01\x02"},
		{play.Step{Code: 16}, "\x00\x00"}, {play.Step{Code: 30}, "\x0e"}, {play.Step{Code: 267}, "\x0b"}, {play.Step{Code: math.MaxInt}, "\x0f\x00"},
		{play.Step{Code: -11}, "\x0b"}, {play.Step{Code: -27}, "\x0b"}, {play.Step{Code: -1, Data: []byte("abc")}, "\x01\x03abc"}, {play.Step{Code: math.MinInt, A: 5}, "\x00\x05"}, {play.Step{Code: math.MinInt + 1, A: 5}, "\x0f\x05"},
		{play.Step{Code: 3, A: 256}, "\x03\x00"}, {play.Step{Code: 3, A: 511}, "\x03\xff"}, {play.Step{Code: 3, A: -1}, "\x03\x01"}, {play.Step{Code: 3, A: -255}, "\x03\xff"}, {play.Step{Code: 3, A: -257}, "\x03\x01"}, {play.Step{Code: 3, A: math.MaxInt}, "\x03\xff"}, {play.Step{Code: 3, A: math.MinInt}, "\x03\x00"}, {play.Step{Code: 3, A: math.MinInt + 1}, "\x03\xff"},
		{play.Step{Code: 12, A: 1000, B: -1000}, "\x0c\xe8\xe8"},
		{play.Step{Code: 6, A: -2, B: 65536 + 258}, "\x06\x02\x02\x01"},
		{play.Step{Code: 5, A: 1<<32 + 258, B: 1<<16 + 3, C: 1<<8 + 4}, "\x05\x02\x01\x00\x00\x03\x00\x04"},
		{play.Step{Code: 5, A: -258, B: -3, C: -4}, "\x05\x02\x01\x00\x00\x03\x00\x04"},
		{play.Step{Code: 5, A: math.MinInt, B: math.MinInt, C: math.MinInt}, "\x05\x00\x00\x00\x00\x00\x00\x00"},
		{play.Step{Code: 5, A: math.MaxInt, B: math.MaxInt, C: math.MaxInt}, "\x05\xff\xff\xff\xff\xff\xff\xff"},
		{play.Step{Code: 2, Data: []byte(filled(2000) + "y")}, "\x02\xfd\xd0\x07" + filled(2000)},
		{play.Step{Code: 10, A: 1, Data: []byte(filled(2000) + filled(100000))}, "\x0a\x01\xfd\xd0\x07" + filled(2000)},
		{play.Step{Code: 2, Data: []byte{}}, "\x02\x00"},
	} {
		if got := c.step.Bytes(); string(got) != c.want {
			t.Errorf("%v has the bytes %x; want %x", c.step, got, c.want)
		}
	}
}

// TestP27_1Random: any steps are those of their bytes, and any bytes have the steps that the plain reading has.
func TestP27_1Random(t *testing.T) {
	r := rand.New(rand.NewSource(27))
	for range 20000 {
		script := make([]byte, r.Intn(60))
		r.Read(script)
		expectSteps(t, script, plainSteps(script)...)
		steps := play.Steps(script)
		var again []byte
		for _, s := range steps {
			again = append(again, s.Bytes()...)
		}
		expectSteps(t, again, steps...)
		if len(again) > len(script) {
			t.Errorf("%x became %x", script, again)
			continue
		}
		// The bytes differ in what is ignored alone.
		at := 0
		for _, s := range steps {
			n := len(s.Bytes())
			if !bytes.Equal(s.Bytes(), slices.Concat([]byte{script[at] % 16}, script[at+1:at+n])) {
				t.Errorf("%x became %x", script[at:at+n], s.Bytes())
			}
			at += n
		}
	}
}
