package script_test

import (
	"bytes"
	"slices"
	"testing"

	"strongbox/api"
	"strongbox/script"
)

// keys returns n different keys.
func keys(n int) [][]byte {
	var list [][]byte
	for i := range n {
		list = append(list, fill(33, byte(i)))
	}
	return list
}

// multiOf returns a script that begins and ends like Multi, with these codes as m and n, and these pushes.
func multiOf(m, n byte, list ...[]byte) []byte {
	s := []byte{m}
	for _, b := range list {
		s = append(append(s, byte(len(b))), b...)
	}
	return append(s, n, 0xae)
}

// form is a script with its form and parts.
type form struct {
	s     []byte
	kind  int
	parts [][]byte
}

// forms returns scripts of each form.
func forms(t *testing.T) []form {
	short, long := fill(20, 9), fill(32, 8)
	list := []form{
		{slices.Concat([]byte{0x76, 0xa9, 0x14}, short, []byte{0x88, 0xac}), script.KeyHash, [][]byte{short}},
		{slices.Concat([]byte{0xa9, 0x14}, short, []byte{0x87}), script.ScriptHash, [][]byte{short}},
		{append([]byte{0, 0x14}, short...), script.WitnessKey, [][]byte{short}},
		{append([]byte{0, 0x20}, long...), script.WitnessScript, [][]byte{long}},
		{multiOf(0x51, 0x51, keys(1)...), script.Multi, append([][]byte{{1}}, keys(1)...)},
		{multiOf(0x51, 0x52, keys(2)...), script.Multi, append([][]byte{{1}}, keys(2)...)},
		{multiOf(0x52, 0x53, keys(3)...), script.Multi, append([][]byte{{2}}, keys(3)...)},
		{[]byte{0x6a}, script.Data, [][]byte{nil}},
		{hexed(t, "6a 01 02"), script.Data, [][]byte{{1, 2}}},
		{hexed(t, "6a 4c02 0102 00 4f 50 60 03 616263"), script.Data, [][]byte{hexed(t, "4c02 0102 00 4f 50 60 03 616263")}},
		{append([]byte{0x6a, 0x4b}, fill(75, 1)...), script.Data, [][]byte{append([]byte{0x4b}, fill(75, 1)...)}},
		{hexed(t, "00 02 0102"), script.Witness, [][]byte{{0}, {1, 2}}},
		{hexed(t, "51 02 0102"), script.Witness, [][]byte{{1}, {1, 2}}},
		{append([]byte{0x51, 0x14}, short...), script.Witness, [][]byte{{1}, short}},
		{append([]byte{0x60, 0x20}, long...), script.Witness, [][]byte{{16}, long}},
		{append([]byte{0x52, 0x21}, fill(33, 1)...), script.Witness, [][]byte{{2}, fill(33, 1)}},
		{append([]byte{0x5a, 0x28}, fill(40, 1)...), script.Witness, [][]byte{{10}, fill(40, 1)}},
	}
	return list
}

func TestP11_3Forms(t *testing.T) {
	for _, f := range forms(t) {
		expectKind(t, f.s, f.kind, f.parts...)
	}
	for _, s := range [][]byte{nil, {}, {0}, {0x51}, {0x60}, {0x76}, {0xa9}, {0xac}, {0xae}, {0x6a, 0x76}, {0x76, 0xa9, 0x88, 0xac}, {1}, {0x51, 0x51}, {0x51, 0x51, 0xae}, {0x51, 0x50, 0xae}, {0x51, 0xae}} {
		expectKind(t, s, script.Other)
	}
}

// TestP11_3OneByte: each form with one byte missing, one more, and one changed, at any position.
func TestP11_3OneByte(t *testing.T) {
	for _, f := range forms(t) {
		for i := range len(f.s) + 1 {
			expectModel(t, f.s[:i])
			expectModel(t, f.s[i:])
			for b := range 256 {
				expectModel(t, slices.Insert(bytes.Clone(f.s), i, byte(b)))
			}
		}
		for i := range f.s {
			expectModel(t, slices.Delete(bytes.Clone(f.s), i, i+1))
			for b := range 256 {
				s := bytes.Clone(f.s)
				s[i] = byte(b)
				expectModel(t, s)
			}
		}
	}
}

// TestP11_3OtherForms: what the form of a hash is with a byte missing or more is none.
func TestP11_3OtherForms(t *testing.T) {
	for _, f := range forms(t)[:7] {
		last := len(f.s) - 1
		expectKind(t, f.s[:last], script.Other)
		expectKind(t, f.s[1:], script.Other)
		expectKind(t, append(bytes.Clone(f.s), 0), script.Other)
		expectKind(t, append(bytes.Clone(f.s), f.s[last]), script.Other)
		expectKind(t, append([]byte{0}, f.s...), script.Other)
		expectKind(t, append([]byte{0x61}, f.s...), script.Other)
	}
	for _, n := range []int{19, 21, 32} {
		expectKind(t, slices.Concat([]byte{0x76, 0xa9, byte(n)}, fill(n, 9), []byte{0x88, 0xac}), script.Other)
		expectKind(t, slices.Concat([]byte{0xa9, byte(n)}, fill(n, 9), []byte{0x87}), script.Other)
	}
}

// TestP11_3LongerCodes: what a form pushes, pushed with a longer code than its own.
func TestP11_3LongerCodes(t *testing.T) {
	for _, code := range []string{"4c", "4d", "4e"} {
		longer := func(n int) []byte {
			width := map[string]int{"4c": 1, "4d": 2, "4e": 4}[code]
			return append(hexed(t, code), []byte{byte(n), 0, 0, 0}[:width]...)
		}
		expectKind(t, slices.Concat([]byte{0x76, 0xa9}, longer(20), fill(20, 9), []byte{0x88, 0xac}), script.Other)
		expectKind(t, slices.Concat([]byte{0xa9}, longer(20), fill(20, 9), []byte{0x87}), script.Other)
		for _, n := range []int{2, 20, 32, 40} {
			for _, version := range []byte{0, 0x51, 0x60} {
				expectKind(t, slices.Concat([]byte{version}, longer(n), fill(n, 9)), script.Other)
			}
		}
		key := keys(1)[0]
		expectKind(t, slices.Concat([]byte{0x51}, longer(33), key, []byte{0x51, 0xae}), script.Other)
		expectKind(t, slices.Concat([]byte{0x51, 0x21}, key, longer(33), key, []byte{0x52, 0xae}), script.Other)
		expectKind(t, slices.Concat([]byte{0x51}, longer(33), key, []byte{0x21}, key, []byte{0x52, 0xae}), script.Other)
		// In Data any code may push.
		rest := append(longer(20), fill(20, 9)...)
		expectKind(t, append([]byte{0x6a}, rest...), script.Data, rest)
	}
	// m and n as pushes of one byte.
	key := keys(1)[0]
	expectKind(t, slices.Concat([]byte{1, 1, 0x21}, key, []byte{0x51, 0xae}), script.Other)
	expectKind(t, slices.Concat([]byte{0x51, 0x21}, key, []byte{1, 1, 0xae}), script.Other)
	expectKind(t, append([]byte{1, 1, 2}, 7, 7), script.Other)
}

// TestP11_3Multi: every m and n, and every number of pushes.
func TestP11_3Multi(t *testing.T) {
	for pushes := range 19 {
		for m := range 20 {
			for n := range 20 {
				s := multiOf(byte(0x50+m), byte(0x50+n), keys(pushes)...)
				if 1 <= m && m <= n && n <= 16 && n == pushes {
					expectKind(t, s, script.Multi, append([][]byte{{byte(m)}}, keys(n)...)...)
				} else {
					expectKind(t, s, script.Other)
				}
			}
		}
	}
	for _, n := range []int{1, 2, 15, 16} {
		code := byte(0x50 + n)
		expectKind(t, multiOf(code, code, keys(n)...), script.Multi, append([][]byte{{byte(n)}}, keys(n)...)...)
		for _, wrong := range []byte{0, 0x4f, 0x50, 1, byte(n), 0x61, 0x80 | code} {
			expectKind(t, multiOf(wrong, code, keys(n)...), script.Other)
			expectKind(t, multiOf(code, wrong, keys(n)...), script.Other)
			expectKind(t, multiOf(wrong, wrong, keys(n)...), script.Other)
		}
		for at := range n {
			for _, size := range []int{1, 20, 32, 34, 65, 75} {
				list := keys(n)
				list[at] = fill(size, 3)
				expectKind(t, multiOf(0x51, code, list...), script.Other)
			}
			s := multiOf(0x51, code, keys(n)...)
			s[1+34*at] = 0x51
			expectKind(t, s, script.Other)
		}
		for _, last := range []byte{0, 0xac, 0xad, 0xaf, 0x6a, 0x51} {
			s := multiOf(0x51, code, keys(n)...)
			s[len(s)-1] = last
			expectKind(t, s, script.Other)
		}
	}
	// No key at all.
	for _, s := range []string{"51 51 ae", "51 50 ae", "51 00 ae", "00 00 ae", "50 50 ae", "51 ae", "ae"} {
		expectKind(t, hexed(t, s), script.Other)
	}
}

func TestP11_3Data(t *testing.T) {
	for _, rest := range []string{"", "00", "01 02", "4f", "50", "51", "60", "4c 00", "4c 02 6a6a", "4d 0200 ffff", "4e 02000000 acac", "01 6a", "00 00 00", "02 6161 60"} {
		b := hexed(t, rest)
		expectKind(t, append([]byte{0x6a}, b...), script.Data, b)
	}
	for _, rest := range []string{"01", "02 61", "4b", "4c", "4c 01", "4d", "4d 01", "4d 0100", "4d 0200 61", "4e", "4e 000000", "4e ffffffff", "61", "6a", "76", "ff", "00 61", "61 00", "01 02 ac", "60 01"} {
		expectKind(t, append([]byte{0x6a}, hexed(t, rest)...), script.Other)
	}
	for _, s := range []string{"69", "6b", "6b 01 02", "00 6a", "61 6a", "01 6a", "51 6a 01 02"} {
		expectKind(t, hexed(t, s), script.Other)
	}
	long := append([]byte{0x4e, 0xa0, 0x86, 1, 0}, make([]byte, 100000)...)
	expectKind(t, append([]byte{0x6a}, long...), script.Data, long)
}

// TestP11_3Program: programs of all sizes and versions, and what is none.
func TestP11_3Program(t *testing.T) {
	for n := range 80 {
		push := fill(n, 5)
		for code := range 256 {
			s := slices.Concat([]byte{byte(code), byte(n)}, push)
			version := code - 0x50
			if code == 0 {
				version = 0
			}
			is := n >= 2 && n <= 40 && (code == 0 || version >= 1 && version <= 16)
			v, p, ok := script.Program(s)
			if ok != is || is && (v != version || !bytes.Equal(p, push)) || !is && (v != 0 || len(p) > 0) {
				t.Fatalf("Program(%x) = %d, %x, %v", s, v, p, ok)
			}
			switch kind, _ := script.Kind(s); {
			case is && version == 0 && n == 20 && kind != script.WitnessKey,
				is && version == 0 && n == 32 && kind != script.WitnessScript,
				is && (version > 0 || n != 20 && n != 32) && kind != script.Witness,
				!is && kind != script.Other && code != 0x6a:
				t.Fatalf("Kind(%x) = %d", s, kind)
			}
		}
	}
	for _, s := range []string{"50 02 0102", "4f 02 0102", "61 02 0102", "01 00 02 0102", "0100 02 0102", "51 02 01", "51 02 010203", "51 02 0102 00", "51 02 0102 51",
		"00 02 01", "00 01 01", "00 00", "51 4c 02 0102", "00 4c 14", "51 4f 4f", "51 51 51", "51 02", "51", "51 01 01 01 01", "51 52 0102"} {
		expectKind(t, hexed(t, s), script.Other)
	}
}

func TestP11_3PayHash(t *testing.T) {
	for _, h := range [][20]byte{{}, {7}, [20]byte(fill(20, 1)), [20]byte(bytes.Repeat([]byte{255}, 20))} {
		key, inner := script.PayKey(h), script.PayScript(h)
		if !bytes.Equal(key, slices.Concat([]byte{0x76, 0xa9, 0x14}, h[:], []byte{0x88, 0xac})) {
			t.Errorf("PayKey(%x) = %x", h, key)
		}
		if !bytes.Equal(inner, slices.Concat([]byte{0xa9, 0x14}, h[:], []byte{0x87})) {
			t.Errorf("PayScript(%x) = %x", h, inner)
		}
		expectKind(t, key, script.KeyHash, h[:])
		expectKind(t, inner, script.ScriptHash, h[:])
	}
}

func TestP11_3PayWitness(t *testing.T) {
	const least, greatest = -1 << 63, 1<<63 - 1
	for _, version := range []int{least, -256, -80, -2, -1, 0, 1, 2, 15, 16, 17, 18, 81, 255, 256, 257, 272, greatest} {
		for n := range 100 {
			push := fill(n, 5)
			s, err := script.PayWitness(version, push)
			want := api.OK
			switch {
			case version < 0 || version > 16:
				want = api.ErrArg
			case n < 2 || n > 40:
				want = api.ErrSize
			}
			if err != want || want != api.OK && len(s) > 0 {
				t.Fatalf("PayWitness(%d, %d bytes) = %x, error %d; want %d", version, n, s, err, want)
			}
			if want == api.OK {
				expectProgram(t, s, version, push)
			}
		}
	}
	if s, err := script.PayWitness(0, nil); len(s) > 0 || err != api.ErrSize {
		t.Errorf("PayWitness(0, nil) = %x, error %d", s, err)
	}
	if s, err := script.PayWitness(17, nil); len(s) > 0 || err != api.ErrArg {
		t.Errorf("PayWitness(17, nil) = %x, error %d", s, err)
	}
}

// expectProgram: a script is the witness program of this version and push, and is recognized as that.
func expectProgram(t *testing.T, s []byte, version int, push []byte) {
	t.Helper()
	code := byte(0)
	if version > 0 {
		code = byte(0x50 + version)
	}
	if !bytes.Equal(s, slices.Concat([]byte{code, byte(len(push))}, push)) {
		t.Fatalf("PayWitness(%d, %x) = %x", version, push, s)
	}
	switch {
	case version == 0 && len(push) == 20:
		expectKind(t, s, script.WitnessKey, push)
	case version == 0 && len(push) == 32:
		expectKind(t, s, script.WitnessScript, push)
	default:
		expectKind(t, s, script.Witness, []byte{byte(version)}, push)
	}
}

func TestP11_3PayMulti(t *testing.T) {
	for n := range 21 {
		for m := -2; m <= n+2; m++ {
			s, err := script.PayMulti(m, keys(n)...)
			if n < 1 || n > 16 || m < 1 || m > n {
				if len(s) > 0 || err != api.ErrArg {
					t.Errorf("PayMulti(%d, %d keys) = %x, error %d", m, n, s, err)
				}
				continue
			}
			if err != api.OK || !bytes.Equal(s, multiOf(byte(0x50+m), byte(0x50+n), keys(n)...)) {
				t.Errorf("PayMulti(%d, %d keys) = %x, error %d", m, n, s, err)
			}
			expectKind(t, s, script.Multi, append([][]byte{{byte(m)}}, keys(n)...)...)
		}
	}
}

func TestP11_3PayMultiErrors(t *testing.T) {
	bad := func(n, size int) [][]byte {
		list := keys(n)
		list[n-1] = fill(size, 1)
		return list
	}
	for _, c := range []struct {
		what string
		m    int
		keys [][]byte
		err  api.Errno
	}{
		{"no key", 1, nil, api.ErrArg},
		{"no key, m 0", 0, [][]byte{}, api.ErrArg},
		{"17 keys", 1, keys(17), api.ErrArg},
		{"17 keys, m 17", 17, keys(17), api.ErrArg},
		{"m 0", 0, keys(2), api.ErrArg},
		{"m -1", -1, keys(2), api.ErrArg},
		{"one more", 3, keys(2), api.ErrArg},
		{"m 257", 257, keys(1), api.ErrArg},
		{"the greatest m", 1<<63 - 1, keys(1), api.ErrArg},
		{"the least m", -1 << 63, keys(1), api.ErrArg},
		{"a key of no bytes", 1, bad(2, 0), api.ErrForm},
		{"a nil key", 1, [][]byte{keys(1)[0], nil}, api.ErrForm},
		{"the only key nil", 1, [][]byte{nil}, api.ErrForm},
		{"a key of 32 bytes", 1, bad(2, 32), api.ErrForm},
		{"a key of 34 bytes", 1, bad(2, 34), api.ErrForm},
		{"a key of 65 bytes", 1, bad(16, 65), api.ErrForm},
		{"the first key of 32 bytes", 2, [][]byte{fill(32, 1), keys(1)[0]}, api.ErrForm},
		{"a key of 32 bytes, m 0", 0, bad(2, 32), api.ErrArg},
		{"a key of 34 bytes, one more", 3, bad(2, 34), api.ErrArg},
		{"a nil key of 17", 1, bad(17, 0), api.ErrArg},
		{"a nil key, m -1", -1, [][]byte{nil}, api.ErrArg},
	} {
		if s, err := script.PayMulti(c.m, c.keys...); len(s) > 0 || err != c.err {
			t.Errorf("%s: %x, error %d; want %d", c.what, s, err, c.err)
		}
	}
}
