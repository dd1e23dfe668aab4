package check_test

import (
	"bytes"
	"math"
	"slices"
	"testing"

	"strongbox/api"
	"strongbox/check"
	"strongbox/hash"
	"strongbox/script"
	"strongbox/sighash"
)

// TestP14_1Coins: what can be spent, with what is needed, one signature too few, and those of others.
func TestP14_1Coins(t *testing.T) {
	for _, c := range coins() {
		for i := range 3 {
			x, out := payment(), api.TxOut{Value: 9, Script: c.s}
			by := c.keys[:c.need]
			s, w := c.input(x, i, 9, by...)
			expectInput(t, true, with(x, i, s, w...), i, out)
			// What others have in their inputs doesn't matter.
			expectInput(t, true, with(with(x, i, s, w...), (i+1)%3, []byte{0x6a}, []byte{1}), i, out)
			if c.need > 1 {
				s, w = c.input(x, i, 9, by[1:]...)
				expectInput(t, false, with(x, i, s, w...), i, out)
				s, w = c.input(x, i, 9, append(slices.Clone(by[1:]), by[0])...)
				// Where the first key stands behind the second one, too, that is an order of keys.
				expectInput(t, slices.Contains(c.keys[2:], by[0]), with(x, i, s, w...), i, out)
			}
			s, w = c.input(x, i, 9, append(slices.Clone(by[1:]), 20)...)
			expectInput(t, false, with(x, i, s, w...), i, out)
			s, w = c.input(x, (i+1)%3, 9, by...)
			expectInput(t, false, with(x, i, s, w...), i, out)
		}
	}
}

// TestP14_1Amount: as Witness the amount is signed, and otherwise not.
func TestP14_1Amount(t *testing.T) {
	for _, c := range coins() {
		for _, value := range []int64{0, 1, 9, -1, math.MinInt64, math.MaxInt64} {
			x := payment()
			s, w := c.input(x, 1, value, c.keys[:c.need]...)
			x = with(x, 1, s, w...)
			expectInput(t, true, x, 1, api.TxOut{Value: value, Script: c.s})
			expectInput(t, !c.witness, x, 1, api.TxOut{Value: value + 1, Script: c.s})
			expectInput(t, !c.witness, x, 1, api.TxOut{Value: value - 1, Script: c.s})
		}
	}
}

// TestP14_1Changes: the transaction is signed.
func TestP14_1Changes(t *testing.T) {
	for _, c := range coins() {
		out := api.TxOut{Value: 9, Script: c.s}
		s, w := c.input(payment(), 1, 9, c.keys[:c.need]...)
		for k, change := range []func(x *api.Tx){
			func(x *api.Tx) { x.Version++ }, func(x *api.Tx) { x.Lock++ }, func(x *api.Tx) { x.In[1].Seq++ }, func(x *api.Tx) { x.In[0].Prev.Index++ },
			func(x *api.Tx) { x.Out[2].Value++ }, func(x *api.Tx) { x.Out = x.Out[:2] }, func(x *api.Tx) { x.In = x.In[:2] },
		} {
			x := with(payment(), 1, s, w...)
			change(&x)
			if err := check.Input(x, 1, out); err != api.ErrScript {
				t.Errorf("%s, change %d: error %d", c.name, k, err)
			}
		}
	}
}

// TestP14_1Index: there is no input i.
func TestP14_1Index(t *testing.T) {
	anybody := api.TxOut{Script: []byte{0x51}}
	x := payment()
	for _, i := range []int{math.MinInt, -2, -1, 3, 4, math.MaxInt} {
		if err := check.Input(x, i, anybody); err != api.ErrArg {
			t.Errorf("input %d: error %d", i, err)
		}
		if err := check.Input(x, i, api.TxOut{Script: []byte{0x6a}}); err != api.ErrArg {
			t.Errorf("input %d of what can't be spent: error %d", i, err)
		}
		if err := check.Input(api.Tx{}, i, anybody); err != api.ErrArg {
			t.Errorf("input %d of none: error %d", i, err)
		}
	}
	for i := range 3 {
		expectInput(t, true, x, i, anybody)
		expectInput(t, false, x, i, api.TxOut{})
	}
	if err := check.Input(api.Tx{}, 0, anybody); err != api.ErrArg {
		t.Errorf("no input: error %d", err)
	}
}

// TestP14_1InputScript: an input's Script pushes only, and what it leaves is what the output's is run on.
func TestP14_1InputScript(t *testing.T) {
	for _, c := range []struct {
		in, out string
		may     bool
	}{
		{"", "51", true}, {"", "", false}, {"51", "", true}, {"52", "", true}, {"00", "", false}, {"0180", "", false}, {"4f", "", true}, {"51 51", "", false}, {"00 51", "", false},
		{"", "00", false}, {"", "0180", false}, {"", "51 51", false}, {"", "51 00", false}, {"51", "51", false}, {"51", "75", false}, {"51", "69", false}, {"51 51", "69", true}, {"51 00", "69", false}, {"51", "75 51", true},
		{"52 53", "93 55 87", true}, {"52 53", "93 56 87", false}, {"53 52", "94", true}, {"52", "93", false}, {"", "6a", false}, {"51", "6a", false}, {"51", "61", true}, {"51", "01", false}, {"51", "63 51 68", true}, {"00", "63 51 68", false}, {"51", "63 51 67 00 68", true},
		// Codes above 60, although what they do is harmless.
		{"61", "51", false}, {"51 61", "", false}, {"51 76 87", "", false}, {"51 76", "75", false}, {"00 63 68", "51", false}, {"51 75", "51", false}, {"b0", "51", false}, {"51 51 87", "", false}, {"ff", "51", false},
		// The code 50 is none of these, but fails.
		{"50", "51", false}, {"51 50", "", false}, {"60", "", true},
		// What can't be parsed.
		{"01", "51", false}, {"51 02 01", "", false}, {"4c", "51", false}, {"4d 01", "51", false}, {"4e ffffffff", "51", false},
		// Pushes needn't be as short as can be.
		{"4c0101", "", true}, {"4d010001", "", true}, {"4e0100000001", "", true}, {"0101", "", true}, {"4c00", "91", true},
	} {
		expectSpends(t, c.may, hexed(c.out), hexed(c.in))
		// Without a witness program there is no Witness.
		for _, w := range [][][]byte{{nil}, {{1}}, {{1}, {2}}} {
			expectSpends(t, false, hexed(c.out), hexed(c.in), w...)
		}
	}
}

// TestP14_1Limits: those of the machine hold for each run.
func TestP14_1Limits(t *testing.T) {
	long := func(n int) []byte { return append([]byte{0x4d, byte(n), byte(n >> 8)}, fill(n, 1)...) }
	expectSpends(t, true, nil, long(520))
	expectSpends(t, false, nil, long(521))
	expectSpends(t, true, hexed("51"), nil)
	many := func(n int) []byte { return bytes.Repeat([]byte{0x51}, n) }
	drops := func(n int) []byte { return bytes.Repeat([]byte{0x6d}, n) }
	expectSpends(t, true, drops(200), many(401))
	expectSpends(t, true, drops(201), many(403))
	expectSpends(t, false, drops(202), many(405))
	expectSpends(t, false, nil, many(1001))
	// A Script of 10000 bytes, and one of 10001.
	full := bytes.Repeat(long(520), 19)
	nineteen := append(drops(9), 0x75)
	expectSpends(t, true, nineteen, join(full, pushes(fill(62, 1))))
	expectSpends(t, false, nineteen, join(full, pushes(fill(63, 1))))
	for _, n := range []int{5, 6, 525, 526, 1000, 9999, 10000, 10001, 10002} {
		if s := leaving(n); len(s) != n {
			t.Errorf("%d bytes; want %d", len(s), n)
		}
		expectSpends(t, n <= 10000, leaving(n), nil)
		expectSpends(t, n <= 10000, toWitnessScript(leaving(n)), nil, leaving(n))
		expectSpends(t, n <= 10000, toScript(toWitnessScript(leaving(n))), pushes(toWitnessScript(leaving(n))), leaving(n))
	}
}

// leaving returns a script of so many bytes, at least 5, that leaves one item, which is true.
func leaving(n int) []byte {
	var s []byte
	for n-len(s) > 525 {
		size := 520
		if n-len(s) < 530 {
			size = 100
		}
		s = append(join(s, []byte{0x4d, byte(size), byte(size >> 8)}, fill(size, 1)), 0x75)
	}
	size := n - len(s) - 5
	return append(join(s, []byte{0x4d, byte(size), byte(size >> 8)}, fill(size, 1)), 0x75, 0x51)
}

// scriptHash returns the output's script for an inner script, and the Script that pushes items and that script.
func scriptHash(inner []byte, list ...[]byte) (out, s []byte) {
	return toScript(inner), pushes(append(slices.Clone(list), inner)...)
}

func TestP14_1ScriptHash(t *testing.T) {
	for _, c := range []struct {
		inner string
		items [][]byte
		may   bool
	}{
		{"51", nil, true}, {"00", nil, false}, {"", [][]byte{{1}}, true}, {"", nil, false}, {"", [][]byte{nil}, false}, {"51", [][]byte{{1}}, false}, {"69", [][]byte{{1}, {1}}, true},
		{"93 55 87", [][]byte{{2}, {3}}, true}, {"93 55 87", [][]byte{{2}, {4}}, false}, {"93 55 87", [][]byte{{3}}, false}, {"93 55 87", [][]byte{{1}, {2}, {3}}, false},
		{"75", [][]byte{{1}}, false}, {"75 51", [][]byte{{1}}, true}, {"6a", nil, false}, {"01", nil, false}, {"51 63", nil, false}, {"51 51", nil, false}, {"51 00", nil, false}, {"74 00 87", nil, true},
		{"76 a9", nil, false}, {"6a 01 02", nil, false}, {"0180", nil, false},
	} {
		out, s := scriptHash(hexed(c.inner), c.items...)
		expectSpends(t, c.may, out, s)
		expectSpends(t, false, out, s, []byte{1})
		expectSpends(t, false, out, s, nil)
		expectSpends(t, false, out, nil)
		expectSpends(t, false, out, pushes(c.items...))
		expectSpends(t, false, out, append(slices.Clone(s), 0x51))
		expectSpends(t, false, out, append(slices.Clone(s), 0x61))
		other, _ := scriptHash(append(hexed(c.inner), 0x61))
		expectSpends(t, false, other, s)
		// Only that form hides a script: behind what resembles it nothing is run.
		like := join([]byte{0xa9, 0x4c}, out[1:])
		expectSpends(t, len(c.items) == 0, like, s)
	}
	// Below the inner script there may be no items, which it doesn't see as its own.
	out, s := scriptHash(toScript(hexed("51")), hexed("51"))
	expectSpends(t, true, out, s)
	out, s = scriptHash(toScript(hexed("51")), hexed("52"))
	expectSpends(t, false, out, s)
	out, s = scriptHash(toScript(hexed("51")), hexed("51"), hexed("51"))
	expectSpends(t, false, out, s)
	// What is hidden twice isn't run: it is an item.
	out, s = scriptHash(toScript(hexed("6a")), hexed("6a"))
	expectSpends(t, true, out, s)
	// An inner script has at most 520 bytes, as any item.
	for _, n := range []int{519, 520, 521, 1000} {
		out, s = scriptHash(leaving(n))
		expectSpends(t, n <= 520, out, s)
	}
}

// TestP14_1WitnessKey: a program of 20 bytes needs two items.
func TestP14_1WitnessKey(t *testing.T) {
	x := payment()
	sig := signBy(1, sighash.Witness(x, 1, toKey(1), 9, sighash.All))
	legacy := signBy(1, sighash.Legacy(x, 1, toKey(1), sighash.All))
	out, key := toWitnessKey(1), keyOf(1)
	for _, c := range []struct {
		items [][]byte
		may   bool
	}{
		{[][]byte{sig, key}, true}, {nil, false}, {[][]byte{nil}, false}, {[][]byte{sig}, false}, {[][]byte{key}, false}, {[][]byte{key, sig}, false}, {[][]byte{nil, key}, false}, {[][]byte{sig, nil}, false},
		{[][]byte{nil, sig, key}, false}, {[][]byte{{1}, sig, key}, false}, {[][]byte{sig, key, nil}, false}, {[][]byte{sig, key, out}, false}, {[][]byte{sig, key, toKey(1)}, false}, {[][]byte{sig, keyOf(2)}, false},
		{[][]byte{legacy, key}, false}, {[][]byte{sig[:64], key}, false}, {[][]byte{append(slices.Clone(sig[:64]), 2), key}, false}, {[][]byte{append(slices.Clone(sig[:64]), 0), key}, false}, {[][]byte{fill(521, 1), key}, false},
	} {
		expectSpends(t, c.may, out, nil, c.items...)
		expectSpends(t, c.may, toScript(out), pushes(out), c.items...)
	}
}

// TestP14_1WitnessScript: a program of 32 bytes needs the script, and what that needs.
func TestP14_1WitnessScript(t *testing.T) {
	for _, c := range []struct {
		inner string
		items [][]byte
		may   bool
	}{
		{"51", nil, true}, {"", [][]byte{{1}}, true}, {"", nil, false}, {"", [][]byte{nil}, false}, {"00", nil, false}, {"0180", nil, false}, {"51 51", nil, false}, {"00 51", nil, false}, {"51", [][]byte{{1}}, false}, {"51", [][]byte{nil}, false},
		{"93 55 87", [][]byte{{2}, {3}}, true}, {"93 55 87", [][]byte{{2}, {4}}, false}, {"93 55 87", [][]byte{{3}}, false}, {"6a", nil, false}, {"01", nil, false}, {"75", [][]byte{{1}}, false}, {"75 51", [][]byte{{1}}, true}, {"69 51", [][]byte{nil}, false},
		{"51 63", nil, false}, {"82", [][]byte{fill(520, 1)}, false}, {"82 77", [][]byte{fill(520, 1)}, true}, {"82 77", [][]byte{fill(521, 1)}, false}, {"74 60 87", slices.Repeat([][]byte{{1}}, 16), false},
	} {
		inner := hexed(c.inner)
		out := toWitnessScript(inner)
		whole := append(slices.Clone(c.items), inner)
		for _, hidden := range []bool{false, true} {
			s, o := []byte(nil), out
			if hidden {
				s, o = pushes(out), toScript(out)
			}
			expectSpends(t, c.may, o, s, whole...)
			expectSpends(t, false, o, s, c.items...)
			expectSpends(t, false, o, s)
			expectSpends(t, false, o, s, append(slices.Clone(whole), nil)...)
			expectSpends(t, false, o, s, append(slices.Clone(c.items), append(slices.Clone(inner), 0x61))...)
			expectSpends(t, false, o, s, append([][]byte{inner}, append(c.items, []byte{0x51})...)...)
		}
	}
}

// TestP14_1Programs: programs of any version and size.
func TestP14_1Programs(t *testing.T) {
	for _, size := range []int{2, 3, 19, 20, 21, 31, 32, 33, 39, 40} {
		for _, version := range []int{0, 1, 2, 15, 16} {
			out := program(version, fill(size, 1))
			for _, w := range [][][]byte{nil, {nil}, {{1}}, {{0x51}}, {{1}, {0x51}}, {{1}, {2}, {3}}, {fill(600, 1)}, slices.Repeat([][]byte{{1}}, 1100)} {
				expectSpends(t, version > 0, out, nil, w...)
				expectSpends(t, version > 0, toScript(out), pushes(out), w...)
				expectSpends(t, false, out, []byte{0x51}, w...)
				expectSpends(t, false, out, []byte{0x00}, w...)
				expectSpends(t, false, out, pushes(out), w...)
				expectSpends(t, false, toScript(out), nil, w...)
			}
		}
	}
	// What is no program needs what it says.
	for _, s := range []string{"51 01 07", "51 29" + "07070707070707070707070707070707070707070707070707070707070707070707070707070707ff", "50 02 0707", "51 4c 02 0707", "51 02 0707 61"} {
		expectSpends(t, false, hexed(s), nil)
		expectSpends(t, false, hexed(s), nil, []byte{1})
	}
	expectSpends(t, true, hexed("61 02 0707"), nil)
	expectSpends(t, false, hexed("61 02 0707"), nil, []byte{1})
}

// TestP14_1HiddenProgram: the Script beside a program behind ScriptHash is exactly its shortest push.
func TestP14_1HiddenProgram(t *testing.T) {
	for _, c := range coins() {
		if !c.witness {
			continue
		}
		x := payment()
		s, w := c.input(x, 1, 9, c.keys[:c.need]...)
		if len(s) == 0 {
			for _, wrong := range [][]byte{{0x51}, {0x00}, pushes(c.s), pushes(c.inner[0]), {0x61}, {0x01}} {
				expectSpends(t, false, c.s, wrong, w...)
			}
			continue
		}
		expectSpends(t, true, c.s, s, w...)
		inner := s[1:]
		for _, longer := range [][]byte{
			join([]byte{0x4c, byte(len(inner))}, inner), join([]byte{0x4d, byte(len(inner)), 0}, inner), join([]byte{0x4e, byte(len(inner)), 0, 0, 0}, inner),
			join([]byte{0x51}, s), join([]byte{0x00}, s), join(s, s), join(s, []byte{0x61}), join(s, []byte{0x51}), nil,
		} {
			expectSpends(t, false, c.s, longer, w...)
		}
		expectSpends(t, false, c.s, s)
		expectSpends(t, false, c.s, s, w[1:]...)
		expectSpends(t, false, c.s, s, append(slices.Clone(w), nil)...)
	}
	// A hidden program of another hash.
	out := program(1, fill(32, 1))
	expectSpends(t, true, toScript(out), pushes(out))
	expectSpends(t, false, toScript(out), pushes(program(1, fill(32, 2))))
	// A hidden program behind another form is none.
	expectSpends(t, false, join(hexed("a9 4c"), toScript(out)[1:]), pushes(out), []byte{1})
	h := hash.Hash160(out)
	expectSpends(t, true, join(hexed("a9 4c 14"), h[:], []byte{0x87}), pushes(out))
}

// TestP14_1Forms: outputs of all eight forms, and behind ScriptHash, with nothing and with anything.
func TestP14_1Forms(t *testing.T) {
	forms := [][]byte{
		hexed("51"), toKey(1), toScript(hexed("51")), toWitnessKey(1), toWitnessScript(hexed("51")), multi(1, 1), hexed("6a 01 02"), program(1, fill(32, 1)),
	}
	for kind, s := range forms {
		if got, _ := script.Kind(s); got != kind {
			t.Fatalf("%x has the form %d; want %d", s, got, kind)
		}
		nothing := kind == script.Other || kind == script.Witness
		expectSpends(t, nothing, s, nil)
		expectSpends(t, nothing, toScript(s), pushes(s))
		expectSpends(t, kind == script.WitnessScript || kind == script.Witness, s, nil, hexed("51"))
		expectSpends(t, kind == script.WitnessScript || kind == script.Witness, toScript(s), pushes(s), hexed("51"))
		expectSpends(t, kind == script.ScriptHash, s, pushes(hexed("51")))
		// Behind ScriptHash that form is a comparison only.
		expectSpends(t, kind == script.ScriptHash, toScript(s), pushes(hexed("51"), s))
		expectSpends(t, false, s, pushes(nil, nil))
		expectSpends(t, false, s, pushes(nil, nil), nil)
	}
}

func TestP14_1All(t *testing.T) {
	good, bad := api.TxOut{Script: []byte{0x51}}, api.TxOut{Script: []byte{0x00}}
	expect := func(want api.Errno, x api.Tx, outs ...api.TxOut) {
		t.Helper()
		if got := check.All(x, outs...); got != want {
			t.Errorf("All of %d inputs and %d outputs: error %d; want %d", len(x.In), len(outs), got, want)
		}
	}
	x := payment()
	expect(api.OK, x, good, good, good)
	expect(api.ErrScript, x, bad, good, good)
	expect(api.ErrScript, x, good, bad, good)
	expect(api.ErrScript, x, good, good, bad)
	expect(api.ErrScript, x, bad, bad, bad)
	for _, outs := range [][]api.TxOut{nil, {}, {good}, {good, good}, {good, good, good, good}, {bad, bad}, {bad, bad, bad, bad}} {
		expect(api.ErrArg, x, outs...)
	}
	expect(api.OK, api.Tx{})
	expect(api.OK, api.Tx{In: []api.TxIn{}})
	expect(api.ErrArg, api.Tx{}, good)
	// Each input with the output at the same position.
	list := coins()
	for k := range list {
		three := []coin{list[k], list[(k+3)%len(list)], list[(k+7)%len(list)]}
		var outs []api.TxOut
		y := payment()
		for i, c := range three {
			outs = append(outs, api.TxOut{Value: int64(i), Script: c.s})
			s, w := c.input(payment(), i, int64(i), c.keys[:c.need]...)
			y = with(y, i, s, w...)
		}
		expect(api.OK, y, outs...)
		outs[0], outs[2] = outs[2], outs[0]
		expect(api.ErrScript, y, outs...)
	}
}
