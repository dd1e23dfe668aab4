package tx_test

import (
	"bytes"
	"slices"
	"testing"

	"strongbox/api"
	"strongbox/tx"
)

// expectDecode: b is decoded to want if err is OK, and to nothing otherwise.
func expectDecode(t *testing.T, what string, b []byte, want api.Tx, err api.Errno) {
	t.Helper()
	got, e := tx.Decode(b)
	if e != err {
		t.Errorf("%s: error %d; want %d", what, e, err)
	}
	if err != api.OK {
		want = api.Tx{}
	}
	if !tx.Same(got, want) {
		t.Errorf("%s: another transaction: %+v", what, got)
	}
}

func expectError(t *testing.T, what string, b []byte, err api.Errno) {
	t.Helper()
	expectDecode(t, what, b, api.Tx{}, err)
}

// Parts of encodings in hexadecimal digits.
const (
	place  = "0102030405060708090a0b0c0d0e0f101112131415161718191a1b1c1d1e1f20 04030201 "
	input  = place + "00 ffffffff "
	output = "0807060504030201 00 "
)

func TestP9_1Bytes(t *testing.T) {
	var h api.Hash
	for i := range h {
		h[i] = byte(i + 1)
	}
	p := api.OutPoint{Hash: h, Index: 0x01020304}
	in, out := api.TxIn{Prev: p, Seq: 1<<32 - 1}, api.TxOut{Value: 0x0102030405060708}
	witness := func(items ...[]byte) api.TxIn { return api.TxIn{Prev: p, Seq: 1<<32 - 1, Witness: items} }
	for _, c := range []struct {
		what       string
		tx         api.Tx
		with, bare string
	}{
		{"one of each", api.Tx{Version: 1, In: []api.TxIn{in}, Out: []api.TxOut{out}, Lock: 0x81020304}, "", "01000000 01" + input + "01" + output + "04030281"},
		{"no output", api.Tx{Version: -1, In: []api.TxIn{in}, Lock: 1}, "", "ffffffff 01" + input + "00 01000000"},
		{"no input", api.Tx{Version: -1 << 31, Out: []api.TxOut{out}}, "", "00000080 00 01" + output + "00000000"},
		{"nothing", api.Tx{}, "", "00000000 00 00 00000000"},
		{"empty lists", api.Tx{In: []api.TxIn{}, Out: []api.TxOut{}}, "", "00000000 00 00 00000000"},
		{"an empty witness", api.Tx{In: []api.TxIn{witness()}}, "", "00000000 01" + input + "00 00000000"},
		{"scripts", api.Tx{In: []api.TxIn{{Prev: p, Script: []byte("abc"), Seq: 0x01020384}}, Out: []api.TxOut{{Value: -2, Script: []byte("de")}}}, "",
			"00000000 01" + place + "03 616263 84030201 01 feffffffffffffff 02 6465 00000000"},
		{"a witness", api.Tx{In: []api.TxIn{witness([]byte("abc"), []byte("d"))}, Out: []api.TxOut{out}},
			"00000000 00 01 01" + input + "01" + output + "02 03616263 0164 00000000", "00000000 01" + input + "01" + output + "00000000"},
		{"an empty item", api.Tx{In: []api.TxIn{witness(nil)}},
			"00000000 00 01 01" + input + "00 01 00 00000000", "00000000 01" + input + "00 00000000"},
		{"an empty item beside none", api.Tx{In: []api.TxIn{in, witness([]byte{}), in}, Lock: 5},
			"00000000 00 01 03" + input + input + input + "00 00 01 00 00 05000000", "00000000 03" + input + input + input + "00 05000000"},
	} {
		bare := hexed(t, c.bare)
		with := bare
		if c.with != "" {
			with = hexed(t, c.with)
		}
		if got := tx.Encode(c.tx, true); !bytes.Equal(got, with) {
			t.Errorf("%s, with witnesses: %x", c.what, got)
		}
		if got := tx.Encode(c.tx, false); !bytes.Equal(got, bare) {
			t.Errorf("%s, without witnesses: %x", c.what, got)
		}
		if len(c.tx.In) > 0 {
			expectDecode(t, c.what, with, c.tx, api.OK)
		}
	}
}

// stride returns how far apart the bytes are that are tried: of many only some.
func stride(b []byte) int {
	if len(b) < 2000 {
		return 1
	}
	return len(b) / 100
}

// TestP9_1Inverse: what was encoded is decoded to the same, and no part of it alone, nor more, is an encoding.
func TestP9_1Inverse(t *testing.T) {
	for i, x := range withInputs() {
		for _, witness := range []bool{true, false} {
			b, want := tx.Encode(x, witness), tx.Clone(x)
			for j := range want.In {
				if !witness {
					want.In[j].Witness = nil
				}
			}
			got, err := tx.Decode(b)
			if err != api.OK || !tx.Same(got, want) {
				t.Fatalf("transaction %d comes back as %+v, error %d", i, got, err)
			}
			for n := 0; n < len(b); n += stride(b) {
				expectError(t, "a beginning", b[:n], api.ErrEnd)
			}
			expectError(t, "without the last byte", b[:len(b)-1], api.ErrEnd)
			for _, more := range []byte{0, 1, 255} {
				expectError(t, "one byte more", append(slices.Clone(b), more), api.ErrForm)
			}
		}
	}
}

// TestP9_1AnyBytes changes, leaves out and adds each byte of encodings.
func TestP9_1AnyBytes(t *testing.T) {
	for _, x := range withInputs() {
		b := tx.Encode(x, true)
		for i := 0; i < len(b); i += stride(b) {
			for _, v := range []byte{0, 1, 2, 3, 252, 253, 254, 255, b[i] + 1, b[i] ^ 128} {
				c := slices.Clone(b)
				c[i] = v
				expectModel(t, c)
				expectModel(t, slices.Insert(slices.Clone(b), i, v))
			}
			expectModel(t, slices.Delete(slices.Clone(b), i, i+1))
		}
	}
}

// expectModel: Decode is what the model says, and what it accepts is an encoding.
func expectModel(t *testing.T, b []byte) {
	t.Helper()
	want, err := modelDecode(b)
	got, e := tx.Decode(b)
	if e != err || !tx.Same(got, want) {
		t.Fatalf("%x: %+v, error %d; want %+v, %d", b, got, e, want, err)
	}
	if again := tx.Encode(got, true); e == api.OK && !bytes.Equal(again, b) {
		t.Fatalf("%x is decoded, but encoded as %x", b, again)
	}
}

// TestP9_1SecondForm: what follows a 0 behind the Version.
func TestP9_1SecondForm(t *testing.T) {
	start, rest := "01000000 00", input+"01"+output
	for _, c := range []struct {
		what, hex string
		err       api.Errno
	}{
		{"nothing behind the 0", start, api.ErrEnd},
		{"a 0 behind it", start + "00", api.ErrForm},
		{"a 0 behind it, and a Lock", start + "00 00000000", api.ErrForm},
		{"a 0 instead of the 1", start + "00 01" + rest + "01 00 00000000", api.ErrForm},
		{"a 2", start + "02", api.ErrForm},
		{"a 2 instead of the 1", start + "02 01" + rest + "01 00 00000000", api.ErrForm},
		{"the 1 as a longer size", start + "fd0100 01" + rest + "01 00 00000000", api.ErrForm},
		{"the beginning of a longer size", start + "fd", api.ErrForm},
		{"nothing behind the 1", start + "01", api.ErrEnd},
		{"no input, nothing more", start + "01 00", api.ErrEnd},
		{"no input, no Lock", start + "01 00 00", api.ErrEnd},
		{"no input, a part of the Lock", start + "01 00 00 000000", api.ErrEnd},
		{"no input", start + "01 00 00 00000000", api.ErrForm},
		{"no input, a byte more", start + "01 00 00 00000000 00", api.ErrForm},
		{"no item, no Lock", start + "01 01" + rest + "00", api.ErrEnd},
		{"no item, a part of the Lock", start + "01 01" + rest + "00 000000", api.ErrEnd},
		{"no item", start + "01 01" + rest + "00 00000000", api.ErrForm},
		{"no item, a byte more", start + "01 01" + rest + "00 00000000 00", api.ErrForm},
		{"no item of two inputs", start + "01 02" + input + rest + "00 00 00000000", api.ErrForm},
		{"an item of the second input, no Lock", start + "01 02" + input + rest + "00 01 00", api.ErrEnd},
		{"the witness of one input is missing", start + "01 02" + input + rest + "01 00 00000000", api.ErrEnd},
		{"an item, a byte more", start + "01 01" + rest + "01 00 00000000 00", api.ErrForm},
		{"a Version alone", "01000000", api.ErrEnd},
		{"a part of a Version", "000000", api.ErrEnd},
	} {
		expectError(t, c.what, hexed(t, c.hex), c.err)
	}
	got, err := tx.Decode(hexed(t, start+"01 02"+input+rest+"00 01 00 05000000"))
	if err != api.OK || len(got.In) != 2 || len(got.In[0].Witness) != 0 || len(got.In[1].Witness) != 1 || got.Lock != 5 {
		t.Errorf("an item of the second input: %+v, error %d", got, err)
	}
}

// TestP9_1LongerSizes: each of the sizes is written as short as can be.
func TestP9_1LongerSizes(t *testing.T) {
	parts := []string{"01000000", "00 01", "01", place, "01", "aa 00000000", "01", "0807060504030201", "01", "bb", "01", "01", "cc", "00000000"}
	sizes := []int{2, 4, 6, 8, 10, 11}
	join := func() []byte { return hexed(t, string(bytes.Join(byteLists(parts), nil))) }
	if _, err := tx.Decode(join()); err != api.OK {
		t.Fatalf("error %d", err)
	}
	for _, i := range sizes {
		for _, long := range []string{"fd0100", "fdfc00", "fe01000000", "feffff0000", "ff0100000000000000", "ffffffffff00000000"} {
			parts[i] = long
			expectError(t, "a longer size", join(), api.ErrForm)
		}
		for _, big := range []string{"fe01000002", "feffffffff", "ff0000000001000000"} {
			parts[i] = big
			expectError(t, "a size greater than MaxSize", join(), api.ErrSize)
		}
		parts[i] = "01"
	}
}

func byteLists(list []string) [][]byte {
	var out [][]byte
	for _, s := range list {
		out = append(out, []byte(s))
	}
	return out
}

func TestP9_1GreatestTransaction(t *testing.T) {
	for _, witness := range []bool{false, true} {
		x := plainTx()
		if witness {
			x.In[0].Witness = [][]byte{{1}}
		}
		x.Out[0].Script = make([]byte, 100000-tx.Size(x)-4)
		b := tx.Encode(x, true)
		if len(b) != 100000 {
			t.Fatalf("%d bytes", len(b))
		}
		expectDecode(t, "100000 bytes", b, x, api.OK)
		x.Out[0].Script = append(x.Out[0].Script, 0)
		expectError(t, "100001 bytes", tx.Encode(x, true), api.ErrSize)
	}
	// Any other error is found later.
	for _, first := range []byte{0, 1, 255} {
		b := bytes.Repeat([]byte{first}, 100001)
		expectError(t, "100001 bytes of another form", b, api.ErrSize)
		if _, err := tx.Decode(b[:100000]); err == api.OK || first == 255 && err != api.ErrSize {
			t.Errorf("100000 bytes of %d: error %d", first, err)
		}
	}
}

// TestP9_1Counts: at most 25000 inputs, outputs and items.
func TestP9_1Counts(t *testing.T) {
	const most, more = "fda861", "fda961" // 25000, 25001
	front, back := "01000000 00 01", input+"00"
	items := func(n int) []byte { return make([]byte, n) }
	for _, c := range []struct {
		what, hex string
		tail      []byte
		err       api.Errno
	}{
		{"inputs", "01000000" + most + input, nil, api.ErrEnd},
		{"inputs", "01000000" + more + input, nil, api.ErrSize},
		{"inputs, the bytes end behind their number", "01000000" + more, nil, api.ErrSize},
		{"inputs of the second form", front + most + input, nil, api.ErrEnd},
		{"inputs of the second form", front + more + input, nil, api.ErrSize},
		{"outputs", "01000000 01" + input + most + output, nil, api.ErrEnd},
		{"outputs", "01000000 01" + input + more + output, nil, api.ErrSize},
		{"items", front + "01" + back + most, items(25000), api.ErrEnd},
		{"items", front + "01" + back + more, items(25001 + 4), api.ErrSize},
		{"items, the bytes end behind their number", front + "01" + back + more, nil, api.ErrSize},
		{"items of the second input", front + "02" + input + back + "00" + more, items(25001 + 4), api.ErrSize},
		{"more than any list has", "01000000 fe00000002", nil, api.ErrSize},
	} {
		expectError(t, c.what, append(hexed(t, c.hex), c.tail...), c.err)
	}
	x, err := tx.Decode(append(hexed(t, front+"01"+back+most), items(25000+4)...))
	if err != api.OK || len(x.In[0].Witness) != 25000 {
		t.Errorf("25000 items: error %d", err)
	}
	// The items of all inputs together may be more.
	two := append(hexed(t, front+"02"+input+back+most), items(25000)...)
	two = append(append(two, hexed(t, most)...), items(25000+4)...)
	if x, err = tx.Decode(two); err != api.OK || len(x.In[0].Witness) != 25000 || len(x.In[1].Witness) != 25000 {
		t.Errorf("25000 items of each of two inputs: error %d", err)
	}
}

// TestP9_1Lengths: at most 100000 bytes in a script and in an item.
func TestP9_1Lengths(t *testing.T) {
	const most, more = "fea0860100", "fea1860100" // 100000, 100001
	for _, front := range []string{
		"01000000 01" + place,
		"01000000 01" + input + "01 0807060504030201",
		"01000000 00 01 01" + place,
		"01000000 00 01 01" + input + "00 01",
		"01000000 00 01 02" + input + input + "00 00 02 00",
	} {
		expectError(t, "100000 bytes, which are not there", hexed(t, front+most+"00"), api.ErrEnd)
		expectError(t, "100001 bytes, which are not there", hexed(t, front+more+"00"), api.ErrSize)
		expectError(t, "100001 bytes, nothing follows", hexed(t, front+more), api.ErrSize)
	}
}
