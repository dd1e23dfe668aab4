package vm_test

import (
	"bytes"
	"slices"
	"testing"

	"strongbox/api"
	"strongbox/vm"
)

// notNumbers are items that no operation reads as a number: too long ones, and ones that are not as short as can be.
func notNumbers() [][]byte {
	return items("00 80 0000 0080 0100 0180 7f00 7f80 010000 ffff0000 ffff0080 ff7f00 00000000 00000080 01000000 ffff7f00 ffff7f80 0000008000 0000008080 0100000000 ffffffff00 ffffffff7f 010203040506 616263646566676869")
}

// numbers are items at the ends of what is read as a number.
func numbers() [][]byte {
	return items(". 01 81 7f ff 8000 8080 ff00 ff80 0001 0081 ff7f ffff 008000 008080 ffff7f ffffff ffffff00 ffffff80 00008000 00008080 ffffff7f ffffffff feffff7f feffffff")
}

func codesOf(list []act) []byte {
	var codes []byte
	for _, a := range list {
		if code := hexed(a.s)[0]; !slices.Contains(codes, code) {
			codes = append(codes, code)
		}
	}
	return codes
}

// TestP13_1NotNumbers: each operation on numbers fails if one of them is none.
func TestP13_1NotNumbers(t *testing.T) {
	for _, code := range codesOf(reckoning) {
		n := 2
		if code <= 0x92 {
			n = 1
		} else if code == 0xa5 {
			n = 3
		}
		for at := range n {
			for _, wrong := range notNumbers() {
				stack := slices.Repeat(items("01"), n+2)
				stack[2+at] = wrong
				expectFail(t, []byte{code}, stack, bare())
			}
		}
		// What lies below needn't be a number.
		if _, err := runBoth(t, []byte{code}, append([][]byte{notNumbers()[0]}, slices.Repeat(items("01"), n)...), bare()); err != api.OK {
			t.Errorf("%x: error %d", code, err)
		}
	}
}

// TestP13_1AllNumbers: each operation on numbers, with all of them, as the model does it.
func TestP13_1AllNumbers(t *testing.T) {
	all := numbers()
	for _, code := range codesOf(reckoning) {
		for _, a := range all {
			for _, b := range all {
				runBoth(t, []byte{code}, [][]byte{{1}, a, b}, bare())
				runBoth(t, []byte{code}, [][]byte{a, b, {0x7f}}, bare())
				runBoth(t, []byte{code}, [][]byte{{0xff}, b, a}, bare())
			}
		}
	}
}

// TestP13_1FiveBytes: a sum that has five bytes is an item as any other, but no number any more.
func TestP13_1FiveBytes(t *testing.T) {
	for _, a := range []act{
		{"8b", "ffffff7f", "0000008000"}, {"8b 8c", "ffffff7f", fails}, {"8c 8b", "ffffffff", fails}, {"93 8f", "ffffff7f 01", fails}, {"93 01 00 93", "ffffff7f 01", fails},
		{"94 90", "ffffffff ffffff7f", fails}, {"93 92", "ffffff7f ffffff7f", fails}, {"93 91", "ffffff7f ffffff7f", fails}, {"8b 76 9c", "ffffff7f", fails}, {"8b 51 51 a5", "ffffff7f", fails},
		{"8b 79", "ffffff7f", fails}, {"8b 7a", "ffffff7f", fails}, {"8b 8b", "feffff7f", "0000008000"},
		{"8b 82", "ffffff7f", "0000008000 05"}, {"8b 76 87", "ffffff7f", "01"}, {"8b 69", "ffffff7f", ""}, {"8b 63 52 68", "ffffff7f", "02"}, {"8b 05 0000008000 88", "ffffff7f", ""},
	} {
		expectText(t, a)
	}
}

// TestP13_1Truth: what is true, for each operation that asks.
func TestP13_1Truth(t *testing.T) {
	for s, truth := range map[string]bool{
		".": false, "00": false, "80": false, "0000": false, "0080": false, "8000": true, "8080": true, "000080": false, "008000": true, "000000000000": false, "000000000080": false, "00000000008000": true,
		"01": true, "81": true, "7f": true, "ff": true, "0001": true, "0100": true, "0180": true, "40": true, "0000000001": true, "0000000081": true,
	} {
		item := items(s)[0]
		expectEither(t, truth, []byte{0x69}, [][]byte{item}, bare())
		expectRun(t, hexed("63 51 67 00 68"), [][]byte{item}, bare(), oneIf(truth))
		expectRun(t, hexed("64 51 67 00 68"), [][]byte{item}, bare(), oneIf(!truth))
		want := [][]byte{item}
		if truth {
			want = [][]byte{item, item}
		}
		expectRun(t, []byte{0x73}, [][]byte{item}, bare(), want...)
	}
	long := make([]byte, 520)
	expectFail(t, []byte{0x69}, [][]byte{long}, bare())
	long[519] = 0x80
	expectFail(t, []byte{0x69}, [][]byte{long}, bare())
	long[0] = 1
	expectRun(t, []byte{0x69}, [][]byte{long}, bare())
}

func oneIf(b bool) []byte {
	if b {
		return []byte{1}
	}
	return nil
}

// TestP13_1Sizes: 82 for items of any size, which remain.
func TestP13_1Sizes(t *testing.T) {
	for n := range 521 {
		expectRun(t, []byte{0x82}, [][]byte{fill(n, 1)}, bare(), fill(n, 1), plainItem(int64(n)))
	}
}

// TestP13_1Example is the chapter's own.
func TestP13_1Example(t *testing.T) {
	expectText(t, act{"51 52 93", "", "03"})
	expectText(t, act{"51 63 52 67 53 68", "", "02"})
	expectText(t, act{"00 69", "", fails})
	if got, err := vm.Run(hexed("51 52 93"), nil, vm.Setting{}); err != api.OK || len(got) != 1 || !bytes.Equal(got[0], []byte{3}) {
		t.Errorf("%x, error %d", got, err)
	}
}
