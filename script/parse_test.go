package script_test

import (
	"bytes"
	"math/rand"
	"slices"
	"testing"

	"strongbox/api"
	"strongbox/script"
)

// expectParse: a script has these operations if err is OK, and none otherwise.
func expectParse(t *testing.T, what string, s []byte, err api.Errno, want ...script.Op) {
	t.Helper()
	got, e := script.Parse(s)
	if e != err || !slices.EqualFunc(got, want, sameOp) {
		t.Errorf("%s: %d operations %.80x, error %d; want %d %.80x, %d", what, len(got), got, e, len(want), want, err)
	}
}

func TestP11_1Constants(t *testing.T) {
	codes := []int{script.False, script.Push1, script.Push2, script.Push4, script.Minus, script.One, script.Sixteen,
		script.Return, script.Dup, script.Equal, script.EqualVerify, script.Hash160, script.CheckSig, script.CheckMulti}
	if !slices.Equal(codes, []int{0, 0x4c, 0x4d, 0x4e, 0x4f, 0x51, 0x60, 0x6a, 0x76, 0x87, 0x88, 0xa9, 0xac, 0xae}) {
		t.Errorf("codes %x", codes)
	}
	forms := []int{script.Other, script.KeyHash, script.ScriptHash, script.WitnessKey, script.WitnessScript, script.Multi, script.Data, script.Witness}
	if !slices.Equal(forms, []int{0, 1, 2, 3, 4, 5, 6, 7}) {
		t.Errorf("forms %d", forms)
	}
}

func TestP11_1NoBytes(t *testing.T) {
	expectParse(t, "nil", nil, api.OK)
	expectParse(t, "empty", []byte{}, api.OK)
	if !script.Pushes(nil) || !script.Pushes([]byte{}) {
		t.Errorf("Pushes of no bytes")
	}
}

// TestP11_1Codes: each code with all of its bytes, with one missing, and with none.
func TestP11_1Codes(t *testing.T) {
	for c := range 256 {
		code, front := byte(c), []byte{byte(c)}
		n := 0
		switch {
		case c <= 0x4b:
			n = c
		case c <= 0x4e:
			n = 9
			front = append(front, [][]byte{{9}, {9, 0}, {9, 0, 0, 0}}[c-0x4c]...)
		}
		whole := behind(n, front...)
		op := script.Op{Code: code, Data: fill(n, 3)}
		expectParse(t, "all bytes", whole, api.OK, op)
		expectParse(t, "all bytes, and more", append(bytes.Clone(whole), 0xff, 0), api.OK, op, script.Op{Code: 0xff}, script.Op{})
		expectParse(t, "all bytes behind others", append([]byte{0x51, 1, 7}, whole...), api.OK, script.Op{Code: 0x51}, script.Op{Code: 1, Data: []byte{7}}, op)
		for end := 1; end < len(whole); end++ {
			expectParse(t, "bytes missing", whole[:end], api.ErrEnd)
			expectParse(t, "bytes missing behind others", append([]byte{0, 0x51, 0xff}, whole[:end]...), api.ErrEnd)
		}
	}
}

// TestP11_1Numbers: the numbers of bytes behind 4C, 4D and 4E, also those that a shorter way could say.
func TestP11_1Numbers(t *testing.T) {
	for _, c := range []struct {
		front []byte
		n     int
	}{
		{[]byte{0x4c, 0}, 0},
		{[]byte{0x4c, 1}, 1},
		{[]byte{0x4c, 75}, 75},
		{[]byte{0x4c, 76}, 76},
		{[]byte{0x4c, 0x80}, 128},
		{[]byte{0x4c, 255}, 255},
		{[]byte{0x4d, 0, 0}, 0},
		{[]byte{0x4d, 1, 0}, 1},
		{[]byte{0x4d, 255, 0}, 255},
		{[]byte{0x4d, 0, 1}, 256},
		{[]byte{0x4d, 2, 1}, 258},
		{[]byte{0x4d, 0, 0x80}, 32768},
		{[]byte{0x4d, 255, 255}, 65535},
		{[]byte{0x4e, 0, 0, 0, 0}, 0},
		{[]byte{0x4e, 1, 0, 0, 0}, 1},
		{[]byte{0x4e, 75, 0, 0, 0}, 75},
		{[]byte{0x4e, 255, 255, 0, 0}, 65535},
		{[]byte{0x4e, 0, 0, 1, 0}, 65536},
		{[]byte{0x4e, 3, 2, 1, 0}, 66051},
		{[]byte{0x4e, 0, 0, 0, 1}, 1 << 24},
	} {
		whole := behind(c.n, c.front...)
		expectParse(t, "all bytes", whole, api.OK, script.Op{Code: c.front[0], Data: whole[len(c.front):]})
		expectParse(t, "one more", append(bytes.Clone(whole), 0x76), api.OK, script.Op{Code: c.front[0], Data: whole[len(c.front):]}, script.Op{Code: 0x76})
		expectParse(t, "one missing", whole[:len(whole)-1], api.ErrEnd)
		if c.n > 0 {
			expectParse(t, "none", c.front, api.ErrEnd)
		}
		for end := 1; end < len(c.front); end++ {
			expectParse(t, "a part of the number", c.front[:end], api.ErrEnd)
		}
	}
}

// TestP11_1GreatestNumbers: more bytes than any script has.
func TestP11_1GreatestNumbers(t *testing.T) {
	for _, front := range [][]byte{{0x4e, 255, 255, 255, 255}, {0x4e, 255, 255, 255, 0x7f}, {0x4e, 0, 0, 0, 0x80}, {0x4e, 254, 255, 255, 255}} {
		for _, n := range []int{0, 1, 255, 70000} {
			expectParse(t, "too few bytes", behind(n, front...), api.ErrEnd)
			if script.Pushes(behind(n, front...)) {
				t.Errorf("Pushes of %x", front)
			}
		}
	}
	for _, front := range [][]byte{{0x4c, 255}, {0x4d, 255, 255}} {
		expectParse(t, "none", front, api.ErrEnd)
	}
}

func TestP11_1Parse(t *testing.T) {
	s := hexed(t, "00 02 6162 4c01 63 4d0100 64 4e01000000 65 4f 50 51 60 61 ff 76")
	expectParse(t, "many", s, api.OK,
		script.Op{}, script.Op{Code: 2, Data: []byte("ab")}, script.Op{Code: script.Push1, Data: []byte("c")},
		script.Op{Code: script.Push2, Data: []byte("d")}, script.Op{Code: script.Push4, Data: []byte("e")},
		script.Op{Code: script.Minus}, script.Op{Code: 0x50}, script.Op{Code: script.One}, script.Op{Code: script.Sixteen},
		script.Op{Code: 0x61}, script.Op{Code: 0xff}, script.Op{Code: script.Dup})
	long := bytes.Repeat([]byte{0x61}, 100000)
	if ops, err := script.Parse(long); err != api.OK || len(ops) != len(long) {
		t.Errorf("100000 codes: %d operations, error %d", len(ops), err)
	}
}

func TestP11_1Push(t *testing.T) {
	for _, c := range []struct{ data, want string }{
		{"", "00"},
		{"00", "01 00"},
		{"01", "51"},
		{"02", "52"},
		{"05", "55"},
		{"0f", "5f"},
		{"10", "60"},
		{"11", "01 11"},
		{"4f", "01 4f"},
		{"51", "01 51"},
		{"7f", "01 7f"},
		{"80", "01 80"},
		{"81", "4f"},
		{"82", "01 82"},
		{"ff", "01 ff"},
		{"0000", "02 0000"},
		{"0100", "02 0100"},
		{"8100", "02 8100"},
		{"0081", "02 0081"},
		{"616263", "03 616263"},
	} {
		if got := script.Push(hexed(t, c.data)); !bytes.Equal(got, hexed(t, c.want)) {
			t.Errorf("Push(%s) = %x; want %s", c.data, got, c.want)
		}
	}
	if got := script.Push(nil); string(got) != "\x00" {
		t.Errorf("Push(nil) = %x", got)
	}
}

func TestP11_1LongPush(t *testing.T) {
	for _, c := range []struct {
		n     int
		front []byte
	}{
		{20, []byte{20}},
		{74, []byte{74}},
		{75, []byte{75}},
		{76, []byte{0x4c, 76}},
		{77, []byte{0x4c, 77}},
		{254, []byte{0x4c, 254}},
		{255, []byte{0x4c, 255}},
		{256, []byte{0x4d, 0, 1}},
		{257, []byte{0x4d, 1, 1}},
		{520, []byte{0x4d, 8, 2}},
		{65534, []byte{0x4d, 254, 255}},
		{65535, []byte{0x4d, 255, 255}},
		{65536, []byte{0x4e, 0, 0, 1, 0}},
		{66051, []byte{0x4e, 3, 2, 1, 0}},
		{1<<24 + 2, []byte{0x4e, 2, 0, 0, 1}},
	} {
		if got := script.Push(fill(c.n, 3)); !bytes.Equal(got, behind(c.n, c.front...)) {
			t.Errorf("Push of %d bytes begins with %x; want %x", c.n, got[:5], c.front)
		}
	}
}

// pushed returns the bytes that an operation pushes.
func pushed(op script.Op) []byte {
	switch {
	case op.Code == 0x4f:
		return []byte{0x81}
	case op.Code >= 0x51 && op.Code <= 0x60:
		return []byte{op.Code - 0x50}
	}
	return op.Data
}

// TestP11_1PushIsOne: what is pushed is parsed as one operation, which pushes just that.
func TestP11_1PushIsOne(t *testing.T) {
	var all [][]byte
	for b := range 256 {
		all = append(all, []byte{byte(b)})
	}
	for n := range 600 {
		all = append(all, fill(n, byte(n)), make([]byte, n))
	}
	for _, n := range []int{65534, 65535, 65536, 65537, 100000} {
		all = append(all, fill(n, 1))
	}
	for _, b := range all {
		s := script.Push(b)
		ops, err := script.Parse(s)
		if err != api.OK || len(ops) != 1 || !bytes.Equal(pushed(ops[0]), b) || !script.Pushes(s) {
			t.Errorf("Push of %d bytes %.20x is parsed as %d operations %.20x, error %d", len(b), b, len(ops), ops, err)
		}
	}
}

func TestP11_1Pushes(t *testing.T) {
	for _, c := range []struct {
		s    string
		want bool
	}{
		{"00", true},
		{"01 ff", true},
		{"01", false},
		{"4b", false},
		{"4c", false},
		{"4c 00", true},
		{"4c 01", false},
		{"4c 01 61", true},
		{"4d 00", false},
		{"4d 0000", true},
		{"4d 0100 ff", true},
		{"4d 0100", false},
		{"4e 000000", false},
		{"4e 00000000", true},
		{"4e 01000000", false},
		{"4e 01000000 61", true},
		{"4f", true},
		{"50", true},
		{"51", true},
		{"5f", true},
		{"60", true},
		{"61", false},
		{"62", false},
		{"6a", false},
		{"ff", false},
		{"60 60", true},
		{"60 61", false},
		{"61 60", false},
		{"61 01", false},
		{"00 01 02 4f 50 51 60", true},
		{"00 01 02 4f 61 51 60", false},
		{"00 01 02 03 61", false},
		{"60 02 61", false},
	} {
		if got := script.Pushes(hexed(t, c.s)); got != c.want {
			t.Errorf("Pushes(%s) = %v", c.s, got)
		}
	}
}

// TestP11_1AnyBytes: scripts of any bytes, most of which are short pushes and codes of the forms.
func TestP11_1AnyBytes(t *testing.T) {
	r := rand.New(rand.NewSource(1))
	codes := []byte{0, 1, 2, 3, 0x14, 0x20, 0x21, 0x4b, 0x4c, 0x4d, 0x4e, 0x4f, 0x50, 0x51, 0x52, 0x60, 0x61, 0x6a, 0x76, 0x87, 0x88, 0xa9, 0xac, 0xae, 0xff}
	for range 60000 {
		s := make([]byte, r.Intn(50))
		for i := range s {
			s[i] = codes[r.Intn(len(codes))]
			if r.Intn(4) == 0 {
				s[i] = byte(r.Intn(256))
			}
		}
		expectModel(t, s)
	}
}

// TestP11_1AllShort: all scripts of up to two bytes.
func TestP11_1AllShort(t *testing.T) {
	for a := range 256 {
		expectModel(t, []byte{byte(a)})
		for b := range 256 {
			expectModel(t, []byte{byte(a), byte(b)})
		}
	}
}
