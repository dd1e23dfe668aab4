package vm_test

import (
	"bytes"
	"slices"
	"testing"

	"strongbox/api"
	"strongbox/vm"
)

// times returns a script so many times, one behind the other.
func times(n int, s string) []byte { return bytes.Repeat(hexed(s), n) }

func join(parts ...[]byte) []byte { return slices.Concat(parts...) }

// ofSize returns a script of so many bytes, which throws nearly all away that it pushes.
func ofSize(n int) []byte {
	var s []byte
	for n-len(s) >= 600 {
		s = join(s, []byte{0x4d, 0x08, 0x02}, fill(520, 1), []byte{0x75})
	}
	for n-len(s) >= 2 {
		s = append(s, 0x01, 0x07)
	}
	return append(s, bytes.Repeat([]byte{0x51}, n-len(s))...)
}

func TestP13_1ScriptSize(t *testing.T) {
	expectRun(t, nil, nil, bare())
	expectRun(t, []byte{}, nil, bare())
	expectRun(t, nil, items(". 01 80"), bare(), items(". 01 80")...)
	expectRun(t, nil, nil, vm.Setting{})
	for _, n := range []int{1, 2, 599, 1000, 9998, 9999, 10000, 10001, 10002, 20000} {
		s := ofSize(n)
		if len(s) != n {
			t.Fatalf("%d bytes; want %d", len(s), n)
		}
		stack, err := runBoth(t, s, nil, bare())
		if (err == api.OK) != (n <= 10000) || (len(stack) > 0) != (n <= 10000) {
			t.Errorf("%d bytes: %d items, error %d", n, len(stack), err)
		}
	}
	// That a script is too long can't be helped by what it does.
	expectFail(t, bytes.Repeat([]byte{0x00}, 10001), nil, bare())
	expectFail(t, join(hexed("00 63 4d 1027"), make([]byte, 10000), []byte{0x68}), nil, bare())
}

// TestP13_1NotParsed: what can't be parsed fails, also behind what isn't executed.
func TestP13_1NotParsed(t *testing.T) {
	for _, s := range []string{"01", "02 61", "4b", "4c", "4c 01", "4c 05 00", "4d", "4d 00", "4d 0100", "4d 0200 61", "4e", "4e 000000", "4e 01000000", "4e ffffffff", "4e 00000080"} {
		for _, front := range []string{"", "51", "00 63", "51 63 67", "00 63 68", "51 64"} {
			expectFail(t, hexed(front+s), items("01 01"), bare())
		}
	}
	expectRun(t, hexed("4c00 4d0000 4e00000000"), nil, bare(), nil, nil, nil)
}

func TestP13_1StackAtTheBeginning(t *testing.T) {
	for _, n := range []int{0, 1, 999, 1000} {
		expectRun(t, nil, many(n), bare(), many(n)...)
	}
	for _, n := range []int{1001, 1002, 5000} {
		expectFail(t, nil, many(n), bare())
		expectFail(t, []byte{0x75}, many(n), bare())
		expectFail(t, bytes.Repeat([]byte{0x75}, 200), many(n), bare())
	}
	for _, n := range []int{0, 1, 519, 520} {
		expectRun(t, nil, [][]byte{fill(n, 1), {1}}, bare(), fill(n, 1), []byte{1})
		expectRun(t, []byte{0x82}, [][]byte{fill(n, 1)}, bare(), fill(n, 1), plainItem(int64(n)))
	}
	for _, n := range []int{521, 522, 10000} {
		for at := range 3 {
			list := many(3)
			list[at] = fill(n, 1)
			expectFail(t, nil, list, bare())
			expectFail(t, []byte{0x6d, 0x75}, list, bare())
		}
		expectFail(t, []byte{0x75}, [][]byte{fill(n, 1)}, bare())
	}
	long := slices.Repeat([][]byte{fill(520, 1)}, 1000)
	expectRun(t, []byte{0x75}, long, bare(), long[1:]...)
}

// TestP13_1StackBehind: the stack and the other one have 1000 items behind each operation, and no more.
func TestP13_1StackBehind(t *testing.T) {
	for _, n := range []int{999, 1000, 1001, 1002, 2000} {
		_, err := runBoth(t, bytes.Repeat([]byte{0x51}, n), nil, bare())
		if (err == api.OK) != (n <= 1000) {
			t.Errorf("%d pushes: error %d", n, err)
		}
	}
	for s, more := range map[string]int{"6e": 2, "6f": 3, "76": 1, "70": 2, "78": 1, "7d": 1, "82": 1, "74": 1, "73": 1, "00": 1, "4f": 1, "60": 1, "0107": 1} {
		_, err := runBoth(t, hexed(s), many(1000-more), bare())
		if err != api.OK {
			t.Errorf("%s on %d items: error %d", s, 1000-more, err)
		}
		expectFail(t, hexed(s), many(1001-more), bare())
		// One operation has too many, even if the next one takes them away.
		expectFail(t, hexed(s+"75 75 75 75"), many(1001-more), bare())
		expectRun(t, hexed("00 63"+s+"68"), many(999), bare(), many(999)...)
	}
	expectFail(t, hexed("00 63 68"), many(1000), bare())
	// What is taken first makes room.
	for _, s := range []string{"8f", "91", "a6", "7c", "7b", "72", "71", "77", "6b", "75", "61"} {
		if _, err := runBoth(t, hexed(s), slices.Repeat(items("01"), 1000), bare()); err != api.OK {
			t.Errorf("%s on 1000 items: error %d", s, err)
		}
	}
}

func TestP13_1OtherStackCounts(t *testing.T) {
	for _, n := range []int{1, 2, 100, 190} {
		moved := bytes.Repeat([]byte{0x6b}, n)
		expectRun(t, moved, many(1000), bare(), many(1000)[:1000-n]...)
		expectFail(t, append(moved, 0x51), many(1000), bare())
		expectFail(t, append(moved, 0x51, 0x75), many(1000), bare())
		expectRun(t, append(moved, 0x51), many(999), bare(), append(many(999)[:999-n], []byte{1})...)
		expectFail(t, append(moved, 0x51, 0x51), many(999), bare())
		expectRun(t, append(moved, 0x6c), many(1000), bare(), many(1000)[:1001-n]...)
		expectRun(t, append(moved, 0x75, 0x51), many(1000), bare(), append(many(1000)[:999-n], []byte{1})...)
	}
}

// TestP13_1Counts: of the operations with a code above 60, 201 are too few to fail.
func TestP13_1Counts(t *testing.T) {
	for _, n := range []int{0, 1, 200, 201, 202, 203, 1000} {
		few := n <= 201
		expectEither(t, few, times(n, "61"), nil, bare())
		expectEither(t, few, times(n, "b9"), nil, bare())
		expectEither(t, few, join(times(n, "61"), times(500, "51 00")), nil, bare(), items(string(bytes.Repeat([]byte("01 . "), 500)))...)
		expectEither(t, few, times(n, "5175"), nil, bare())
	}
	// Where nothing is executed: what begins and ends that counts, too.
	for _, n := range []int{198, 199, 200, 201, 202} {
		few := n <= 199
		for _, s := range []string{"61", "75", "6a", "7e", "62", "ff", "ac", "ae", "b1", "67"} {
			expectEither(t, few, join(hexed("00 63"), times(n, s), hexed("68")), nil, bare())
		}
		expectEither(t, n <= 198, join(hexed("51 63 67"), times(n, "6a"), hexed("68")), nil, bare())
		expectRun(t, join(hexed("00 63"), times(n, "60 50 4f 00 0107"), hexed("68")), nil, bare())
	}
	expectEither(t, true, join(times(100, "00 63"), times(100, "68"), []byte{0x61}), nil, bare())
	expectEither(t, false, join(times(100, "00 63"), times(100, "68"), []byte{0x61, 0x61}), nil, bare())
	// Codes up to 60 don't count at all.
	expectRun(t, times(1000, "60"), nil, bare(), slices.Repeat(items("10"), 1000)...)
}

// TestP13_1KeysCount: checking m of n keys counts n in addition, where it is executed.
func TestP13_1KeysCount(t *testing.T) {
	for _, n := range []int{0, 1, 2, 19, 20} {
		check := join([]byte{0x00, 0x00}, bytes.Repeat([]byte{0x51}, n), append([]byte{1}, byte(n)), []byte{0xae})
		if n == 0 {
			check = hexed("00 00 00 ae")
		}
		expectRun(t, join(times(200-n, "61"), check), nil, bare(), []byte{1})
		expectFail(t, join(times(201-n, "61"), check), nil, bare())
		expectRun(t, join(check, times(200-n, "61")), nil, bare(), []byte{1})
		expectFail(t, join(check, times(201-n, "61")), nil, bare())
		verify := append(bytes.Clone(check[:len(check)-1]), 0xaf)
		expectRun(t, join(times(200-n, "61"), verify), nil, bare())
		expectFail(t, join(times(201-n, "61"), verify), nil, bare())
		// Not executed, it counts as one.
		expectRun(t, join(times(198, "61"), []byte{0x00, 0x63}, check, []byte{0x68}), nil, bare())
		expectFail(t, join(times(199, "61"), []byte{0x00, 0x63}, check, []byte{0x68}), nil, bare())
	}
	// 9 times 21 and 12 are 201.
	nine := times(9, "00 00 5151515151515151515151515151515151515151 0114 af")
	expectRun(t, join(nine, times(12, "61")), nil, bare())
	expectFail(t, join(nine, times(13, "61")), nil, bare())
}

// TestP13_1DataSize: an operation with more than 520 bytes of Data fails, executed or not.
func TestP13_1DataSize(t *testing.T) {
	for _, n := range []int{0, 1, 255, 256, 519, 520, 521, 522, 1000, 5000} {
		few := n <= 520
		for _, front := range [][]byte{{0x4d, byte(n), byte(n >> 8)}, {0x4e, byte(n), byte(n >> 8), 0, 0}} {
			push := join(front, fill(n, 1))
			expectEither(t, few, push, nil, bare(), fill(n, 1))
			expectEither(t, few, append(push, 0x75), nil, bare())
			expectEither(t, few, join([]byte{0x00, 0x63}, push, []byte{0x68}), nil, bare())
			expectEither(t, few, join([]byte{0x51, 0x63, 0x67}, push, []byte{0x68}), nil, bare())
			expectEither(t, few, join([]byte{0x51, 0x64, 0x51, 0x63}, push, []byte{0x68, 0x68}), nil, bare())
		}
	}
}
