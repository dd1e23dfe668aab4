package vm_test

import (
	"bytes"
	"slices"
	"testing"

	"strongbox/api"
	"strongbox/vm"
)

// act is a script of one operation, exactly the items that it needs, and what it leaves; "fails" if that fails.
type act struct{ s, before, after string }

const fails = "fails"

// bare is a setting for which the locks of 0 hold.
func bare() vm.Setting {
	return vm.Setting{Tx: api.Tx{Version: 2, In: []api.TxIn{{}}, Out: []api.TxOut{{}}}}
}

// moving are acts that move, copy and throw away.
var moving = []act{
	{"69", "01", ""}, {"69", "ff", ""}, {"69", "0001", ""}, {"69", ".", fails}, {"69", "00", fails}, {"69", "0000", fails},
	{"69", "80", fails}, {"69", "0080", fails}, {"69", "8000", ""}, {"69", "81", ""}, {"69", "8080", ""}, {"69", "000080", fails}, {"69", "008000", ""},
	{"6b", "01", ""},
	{"6d", "01 02", ""},
	{"6e", "01 02", "01 02 01 02"},
	{"6f", "01 02 03", "01 02 03 01 02 03"},
	{"70", "01 02 03 04", "01 02 03 04 01 02"},
	{"71", "01 02 03 04 05 06", "03 04 05 06 01 02"},
	{"72", "01 02 03 04", "03 04 01 02"},
	{"73", "01", "01 01"}, {"73", ".", "."}, {"73", "80", "80"}, {"73", "0080", "0080"}, {"73", "8000", "8000 8000"}, {"73", "0102", "0102 0102"},
	{"75", "01", ""},
	{"76", "01", "01 01"}, {"76", ".", ". ."},
	{"77", "01 02", "02"},
	{"78", "01 02", "01 02 01"},
	{"79", "07 .", "07 07"}, {"79", "07 08 01", "07 08 07"}, {"79", "07 08 09 02", "07 08 09 07"},
	{"7a", "07 .", "07"}, {"7a", "07 08 01", "08 07"}, {"7a", "07 08 09 02", "08 09 07"},
	{"7b", "01 02 03", "02 03 01"},
	{"7c", "01 02", "02 01"},
	{"7d", "01 02", "02 01 02"},
	{"82", ".", ". ."}, {"82", "00", "00 01"}, {"82", "616263", "616263 03"},
	{"87", ". .", "01"}, {"87", "0102 0102", "01"}, {"87", ". 00", "."}, {"87", "01 0100", "."}, {"87", ". 80", "."}, {"87", "0102 0103", "."},
	{"88", ". .", ""}, {"88", "0102 0102", ""}, {"88", ". 00", fails}, {"88", "01 0100", fails}, {"88", ". 80", fails},
}

// reckoning are acts with numbers. The greatest number of four bytes is 7FFFFFFF, and the least one minus that.
var reckoning = []act{
	{"8b", ".", "01"}, {"8b", "81", "."}, {"8b", "7f", "8000"}, {"8b", "ff", "fe"}, {"8b", "ff00", "0001"}, {"8b", "ffffff7f", "0000008000"}, {"8b", "ffffffff", "feffffff"},
	{"8c", ".", "81"}, {"8c", "01", "."}, {"8c", "8000", "7f"}, {"8c", "ff", "8080"}, {"8c", "ffffffff", "0000008080"}, {"8c", "ffffff7f", "feffff7f"},
	{"8f", ".", "."}, {"8f", "01", "81"}, {"8f", "81", "01"}, {"8f", "8000", "8080"}, {"8f", "ffffff7f", "ffffffff"}, {"8f", "ffffffff", "ffffff7f"},
	{"90", ".", "."}, {"90", "01", "01"}, {"90", "81", "01"}, {"90", "8080", "8000"}, {"90", "ffffffff", "ffffff7f"}, {"90", "ffffff7f", "ffffff7f"},
	{"91", ".", "01"}, {"91", "01", "."}, {"91", "81", "."}, {"91", "0001", "."},
	{"92", ".", "."}, {"92", "01", "01"}, {"92", "81", "01"}, {"92", "0001", "01"}, {"92", "05", "01"},
	{"93", "01 02", "03"}, {"93", "01 81", "."}, {"93", "81 81", "82"}, {"93", "ffffff7f ffffff7f", "feffffff00"}, {"93", "ffffffff ffffffff", "feffffff80"}, {"93", "ffffff7f ffffffff", "."},
	{"94", "05 03", "02"}, {"94", "03 05", "82"}, {"94", "03 03", "."}, {"94", "ffffff7f ffffffff", "feffffff00"}, {"94", "ffffffff ffffff7f", "feffffff80"},
	{"9a", "01 01", "01"}, {"9a", ". 01", "."}, {"9a", "01 .", "."}, {"9a", ". .", "."}, {"9a", "81 02", "01"},
	{"9b", "01 01", "01"}, {"9b", ". 01", "01"}, {"9b", "01 .", "01"}, {"9b", ". .", "."}, {"9b", "81 .", "01"},
	{"9c", "02 02", "01"}, {"9c", "02 03", "."}, {"9c", "01 81", "."}, {"9c", ". .", "01"},
	{"9d", "02 02", ""}, {"9d", "02 03", fails}, {"9d", "01 81", fails}, {"9d", ". .", ""},
	{"9e", "02 02", "."}, {"9e", "02 03", "01"}, {"9e", "01 81", "01"}, {"9e", ". .", "."},
	{"9f", "02 03", "01"}, {"9f", "03 02", "."}, {"9f", "02 02", "."}, {"9f", "81 .", "01"}, {"9f", "82 81", "01"},
	{"a0", "02 03", "."}, {"a0", "03 02", "01"}, {"a0", "02 02", "."}, {"a0", ". 81", "01"},
	{"a1", "02 03", "01"}, {"a1", "03 02", "."}, {"a1", "02 02", "01"}, {"a1", "81 .", "01"},
	{"a2", "02 03", "."}, {"a2", "03 02", "01"}, {"a2", "02 02", "01"}, {"a2", ". 81", "01"},
	{"a3", "02 03", "02"}, {"a3", "03 02", "02"}, {"a3", "02 02", "02"}, {"a3", "81 .", "81"}, {"a3", "81 82", "82"},
	{"a4", "02 03", "03"}, {"a4", "03 02", "03"}, {"a4", "02 02", "02"}, {"a4", "81 .", "."}, {"a4", "81 82", "81"},
	{"a5", "02 02 04", "01"}, {"a5", "03 02 04", "01"}, {"a5", "01 02 04", "."}, {"a5", "04 02 04", "."}, {"a5", "05 02 04", "."},
	{"a5", "02 02 02", "."}, {"a5", "02 04 02", "."}, {"a5", "03 04 02", "."}, {"a5", "81 82 .", "01"}, {"a5", ". 81 .", "."}, {"a5", "82 82 81", "01"},
}

// others are the acts that are left.
var others = []act{
	{"61", "", ""}, {"b0", "", ""}, {"b3", "", ""}, {"b4", "", ""}, {"b5", "", ""}, {"b6", "", ""}, {"b7", "", ""}, {"b8", "", ""}, {"b9", "", ""},
	{"a6", "616263", "8eb208f7e05d987a9b044a8e98c6b087f15a0bfc"},
	{"a6", ".", "9c1185a5c5e9fc54612808977ee8f548b2258d31"},
	{"a8", "616263", "ba7816bf8f01cfea414140de5dae2223b00361a396177a9cb410ff61f20015ad"},
	{"a8", ".", "e3b0c44298fc1c149afbf4c8996fb92427ae41e4649b934ca495991b7852b855"},
	{"a9", "616263", "bb1be98c142444d7a56aa3981c3942a978e4dc33"},
	{"a9", ".", "b472a266d0bd89c13706a4132ccfb16f7c3b9fcb"},
	{"aa", "616263", "4f8b42c22dd3729b519ba6f68d2da7cc5b2d606d05daed5ad5128cc03e6c6358"},
	{"aa", ".", "5df6e0e2761359d30a8275058e299fcc0381534545f55cf43e41983f5d4c9456"},
	{"ac", ". .", "."}, {"ac", ". 0279be667ef9dcbbac55a06295ce870b07029bfcdb2dce28d959f2815b16f81798", "."}, {"ad", ". .", fails},
	{"ae", ". . .", "01"}, {"ae", ". . 09 01", "01"}, {"ae", ". . 09 08 02", "01"}, {"ae", ". . 01 09 01", "."}, {"ae", ". . . 02 08 09 02", "."},
	{"af", ". . .", ""}, {"af", ". . 09 01", ""}, {"af", ". . 01 09 01", fails},
	{"b1", ".", "."}, {"b1", "01", fails}, {"b2", ".", "."}, {"b2", "01", fails},
}

func acts() []act { return slices.Concat(moving, reckoning, others) }

// expectAct: an operation does what is said, whatever lies below, and fails with fewer items.
func expectAct(t *testing.T, a act) {
	t.Helper()
	s, before := hexed(a.s), items(a.before)
	for _, below := range [][][]byte{nil, {nil}, {{1}}, {{5}, {0x81}, {}}, {fill(520, 3)}, many(6), many(900)} {
		stack := slices.Concat(below, before)
		if a.after == fails {
			expectFail(t, s, stack, bare())
		} else {
			expectRun(t, s, stack, bare(), slices.Concat(below, items(a.after))...)
		}
	}
	for n := range before {
		expectFail(t, s, before[n+1:], bare())
	}
	// Where it isn't executed, nothing happens.
	for n := range len(before) + 1 {
		expectRun(t, slices.Concat([]byte{0x00, 0x63}, s, []byte{0x68}), before[n:], bare(), before[n:]...)
		expectRun(t, slices.Concat([]byte{0x51, 0x64}, s, []byte{0x68}), before[n:], bare(), before[n:]...)
		expectRun(t, slices.Concat([]byte{0x51, 0x63, 0x67}, s, s, []byte{0x68}), before[n:], bare(), before[n:]...)
	}
}

func TestP13_1Acts(t *testing.T) {
	for _, a := range acts() {
		expectAct(t, a)
	}
}

// TestP13_1EveryCode: each code is one that pushes, one of an act, one that says what is executed, or one that fails.
func TestP13_1EveryCode(t *testing.T) {
	has := map[byte]bool{0x63: true, 0x64: true, 0x65: true, 0x66: true, 0x67: true, 0x68: true, 0x6c: true, 0x74: true}
	for _, a := range acts() {
		has[hexed(a.s)[0]] = true
	}
	known := 0
	for c := range 256 {
		code := byte(c)
		switch {
		case c <= 0x60 && c != 0x50:
			known++
		case has[code]:
			known++
		default:
			expectUnknown(t, code)
		}
	}
	if known != 164 {
		t.Errorf("%d codes are known; want 164", known)
	}
}

// expectUnknown: a code fails where it is executed, whatever the stack is, and counts only where it isn't.
func expectUnknown(t *testing.T, code byte) {
	t.Helper()
	for _, stack := range [][][]byte{nil, {nil}, {{1}}, {{1}, {1}}, items("01 02 03 04 05 06"), many(20)} {
		expectFail(t, []byte{code}, stack, bare())
		expectFail(t, []byte{0x51, code, 0x51}, stack, bare())
		expectFail(t, []byte{0x51, 0x63, code, 0x68}, stack, bare())
		expectRun(t, []byte{0x00, 0x63, code, 0x68}, stack, bare(), stack...)
		expectRun(t, []byte{0x51, 0x63, 0x67, code, code, 0x68}, stack, bare(), stack...)
	}
}

// TestP13_1Pushes: the codes that push their Data, and those that push a number.
func TestP13_1Pushes(t *testing.T) {
	for n := range 76 {
		expectPush(t, append([]byte{byte(n)}, fill(n, 9)...), fill(n, 9))
	}
	for _, n := range []int{0, 1, 75, 76, 255} {
		expectPush(t, append([]byte{0x4c, byte(n)}, fill(n, 9)...), fill(n, 9))
	}
	for _, n := range []int{0, 1, 255, 256, 519, 520} {
		expectPush(t, append([]byte{0x4d, byte(n), byte(n >> 8)}, fill(n, 9)...), fill(n, 9))
		expectPush(t, append([]byte{0x4e, byte(n), byte(n >> 8), 0, 0}, fill(n, 9)...), fill(n, 9))
	}
	expectPush(t, []byte{0x4f}, []byte{0x81})
	for n := 1; n <= 16; n++ {
		expectPush(t, []byte{byte(0x50 + n)}, []byte{byte(n)})
	}
}

// expectPush: an operation pushes an item where it is executed.
func expectPush(t *testing.T, s, item []byte) {
	t.Helper()
	for _, stack := range [][][]byte{nil, {{7}}, many(999)} {
		expectRun(t, s, stack, bare(), append(slices.Clone(stack), item)...)
	}
	expectFail(t, s, many(1000), bare())
	expectFail(t, bytes.Repeat(s, 2), many(999), bare())
	expectRun(t, bytes.Repeat(s, 2), nil, bare(), item, item)
	expectRun(t, slices.Concat([]byte{0x00, 0x63}, s, s, []byte{0x67}, s, []byte{0x68}), items("05"), bare(), []byte{5}, item)
}

func TestP13_1OtherStack(t *testing.T) {
	for _, a := range []act{
		{"51 6b 6c", "", "01"}, {"6b 6b 6c 6c", "01 02", "01 02"}, {"6b 52 6c", "01", "02 01"}, {"6b 7c 6c", "01 02 03", "02 01 03"},
		{"51 52 53 6b 6b 6b 6c 6c 6c", "", "01 02 03"}, {"6b 76 6c 6c", "01 02", fails}, {"6b 6b", "01 02 03", "01"}, {"6b 75 6c", "01 02", "02"},
		{"6c", "", fails}, {"6c", "01", fails}, {"6b 6c 6c", "01 02", fails}, {"6b", "", fails}, {"51 6b 6b", "", fails},
		{"00 63 6c 68", "", ""}, {"00 63 6b 68 6c", "01", fails}, {"6b 00 63 6c 6c 68 6c", "01 02", "01 02"}, {"6b 74", "05 06", "05 01"},
	} {
		expectText(t, a)
	}
}

func TestP13_1Depth(t *testing.T) {
	for n, want := range map[int]string{0: ".", 1: "01", 16: "10", 127: "7f", 128: "8000", 255: "ff00", 256: "0001", 999: "e703"} {
		expectRun(t, []byte{0x74}, many(n), bare(), append(many(n), items(want)...)...)
	}
	expectFail(t, []byte{0x74}, many(1000), bare())
	expectText(t, act{"74 74 74", "", ". 01 02"})
	expectText(t, act{"00 63 74 68", "", ""})
}

// expectText: a script of any length does what is said.
func expectText(t *testing.T, a act) {
	t.Helper()
	if a.after == fails {
		expectFail(t, hexed(a.s), items(a.before), bare())
	} else {
		expectRun(t, hexed(a.s), items(a.before), bare(), items(a.after)...)
	}
}

// TestP13_1Places: 79 and 7A with any number.
func TestP13_1Places(t *testing.T) {
	for n := range 8 {
		for _, k := range []int64{-1 << 31, -1<<31 + 1, -2, -1, 0, 1, 2, int64(n) - 2, int64(n) - 1, int64(n), int64(n) + 1, 1000, 1<<31 - 1} {
			there := 0 <= k && k < int64(n)
			list := many(n)
			stack := append(slices.Clone(list), plainItem(k))
			pick, roll := list, list
			if there {
				i := n - 1 - int(k)
				pick = append(slices.Clone(list), list[i])
				roll = append(slices.Delete(slices.Clone(list), i, i+1), list[i])
			}
			expectEither(t, there, []byte{0x79}, stack, bare(), pick...)
			expectEither(t, there, []byte{0x7a}, stack, bare(), roll...)
		}
	}
	for _, wrong := range []string{"00", "80", "0000", "0100", "0180", "0000000000", "0100000000", "0000000001"} {
		expectFail(t, []byte{0x79}, append(many(5), hexed(wrong)), bare())
		expectFail(t, []byte{0x7a}, append(many(5), hexed(wrong)), bare())
	}
	for _, k := range []int64{0, 1, 15, 16, 127, 128, 255, 256, 500, 997, 998} {
		list := many(999)
		stack := append(slices.Clone(list), plainItem(k))
		i := 998 - int(k)
		expectRun(t, []byte{0x79}, stack, bare(), append(slices.Clone(list), list[i])...)
		expectRun(t, []byte{0x7a}, stack, bare(), append(slices.Delete(slices.Clone(list), i, i+1), list[i])...)
	}
}
