package script_test

import (
	"bytes"
	"math"
	"math/big"
	"math/rand"
	"slices"
	"testing"

	"strongbox/api"
	"strongbox/script"
)

// numbers: at the edges of the numbers of bytes.
var numbers = []struct {
	n   int64
	hex string
}{
	{0, ""},
	{1, "01"},
	{-1, "81"},
	{2, "02"},
	{16, "10"},
	{126, "7e"},
	{127, "7f"},
	{-127, "ff"},
	{128, "8000"},
	{-128, "8080"},
	{129, "8100"},
	{255, "ff00"},
	{-255, "ff80"},
	{256, "0001"},
	{-256, "0081"},
	{258, "0201"},
	{32767, "ff7f"},
	{-32767, "ffff"},
	{32768, "008000"},
	{-32768, "008080"},
	{65535, "ffff00"},
	{-65536, "000081"},
	{1<<23 - 1, "ffff7f"},
	{1 << 23, "00008000"},
	{1<<31 - 1, "ffffff7f"},
	{-1<<31 + 1, "ffffffff"},
	{1 << 31, "0000008000"},
	{-1 << 31, "0000008080"},
	{1<<32 - 1, "ffffffff00"},
	{1 << 32, "0000000001"},
	{1<<39 - 1, "ffffffff7f"},
	{1 << 39, "000000008000"},
	{-1 << 47, "00000000008080"},
	{1<<55 - 1, "ffffffffffff7f"},
	{1 << 55, "0000000000008000"},
	{0x0102030405060708, "0807060504030201"},
	{-0x0102030405060708, "0807060504030281"},
	{math.MaxInt64 - 1, "feffffffffffff7f"},
	{math.MaxInt64, "ffffffffffffff7f"},
	{math.MinInt64 + 2, "feffffffffffffff"},
	{math.MinInt64 + 1, "ffffffffffffffff"},
}

func TestP11_2Number(t *testing.T) {
	for _, c := range numbers {
		want := unhexed(c.hex)
		if got := script.Number(c.n); !bytes.Equal(got, want) {
			t.Errorf("Number(%d) = %x; want %x", c.n, got, want)
		}
		for most := -1; most <= 10; most++ {
			n, err := script.FromNumber(want, most)
			switch {
			case len(want) > most && (n != 0 || err != api.ErrSize):
				t.Errorf("FromNumber(%x, %d) = %d, error %d; want ErrSize", want, most, n, err)
			case len(want) <= most && (n != c.n || err != api.OK):
				t.Errorf("FromNumber(%x, %d) = %d, error %d; want %d", want, most, n, err, c.n)
			}
		}
	}
	// The least number has no opposite, and counts as the one beside it.
	if got := script.Number(math.MinInt64); !bytes.Equal(got, bytes.Repeat([]byte{255}, 8)) {
		t.Errorf("Number of the least int64 = %x", got)
	}
}

func TestP11_2FromNumber(t *testing.T) {
	for _, c := range []struct {
		b    string
		most int
		n    int64
		err  api.Errno
	}{
		{"", 0, 0, api.OK},
		{"", 4, 0, api.OK},
		{"", -1, 0, api.ErrSize},
		{"", math.MinInt, 0, api.ErrSize},
		{"", math.MaxInt, 0, api.OK},
		{"00", 4, 0, api.ErrForm},
		{"80", 4, 0, api.ErrForm},
		{"0080", 4, 0, api.ErrForm},
		{"0100", 4, 0, api.ErrForm},
		{"0180", 4, 0, api.ErrForm},
		{"8000", 4, 128, api.OK},
		{"8080", 4, -128, api.OK},
		{"ff00", 4, 255, api.OK},
		{"ff80", 4, -255, api.OK},
		{"7f00", 4, 0, api.ErrForm},
		{"7f80", 4, 0, api.ErrForm},
		{"0000", 4, 0, api.ErrForm},
		{"800000", 4, 0, api.ErrForm},
		{"800080", 4, 0, api.ErrForm},
		{"808000", 4, 32896, api.OK},
		{"01", 1, 1, api.OK},
		{"01", 0, 0, api.ErrSize},
		{"01", -1, 0, api.ErrSize},
		{"01", math.MinInt, 0, api.ErrSize},
		{"01020304", 4, 0x04030201, api.OK},
		{"01020304", 3, 0, api.ErrSize},
		{"01020304", 0, 0, api.ErrSize},
		{"01020384", 4, -0x04030201, api.OK},
		{"01020300", 4, 0, api.ErrForm},
		{"01020380", 4, 0, api.ErrForm},
		{"0102030405", 4, 0, api.ErrSize},
		{"0102030405", 5, 0x0504030201, api.OK},
		{"0102030485", 5, -0x0504030201, api.OK},
		{"0102030405", -5, 0, api.ErrSize},
		{"0000008000", 5, 1 << 31, api.OK},
		{"0102030405060708", 7, 0, api.ErrSize},
		{"0102030405060708", 8, 0x0807060504030201, api.OK},
		{"0102030405060708", 9, 0x0807060504030201, api.OK},
		{"0102030405060788", 8, -0x0807060504030201, api.OK},
		{"ffffffffffffff7f", 8, math.MaxInt64, api.OK},
		{"ffffffffffffffff", math.MaxInt, math.MinInt64 + 1, api.OK},
		{"0000000000000080", 8, 0, api.ErrForm},
		{"0102030405060780", 8, 0, api.ErrForm},
		{"0102030405060708 09", 8, 0, api.ErrSize},
		{"0102030405060708 09", 9, 0, api.ErrSize},
		{"0102030405060708 09", math.MaxInt, 0, api.ErrSize},
		{"ffffffffffffffff 00", 9, 0, api.ErrSize},
		// Both errors apply.
		{"00", 0, 0, api.ErrSize},
		{"80", -1, 0, api.ErrSize},
		{"0080", 1, 0, api.ErrSize},
		{"0000000000", 4, 0, api.ErrSize},
		{"0000000000000000 00", 9, 0, api.ErrSize},
		{"0000000000000000 80", 100, 0, api.ErrSize},
	} {
		if n, err := script.FromNumber(hexed(t, c.b), c.most); n != c.n || err != c.err {
			t.Errorf("FromNumber(%s, %d) = %d, error %d; want %d, %d", c.b, c.most, n, err, c.n, c.err)
		}
	}
	if n, err := script.FromNumber(nil, 4); n != 0 || err != api.OK {
		t.Errorf("FromNumber(nil, 4) = %d, error %d", n, err)
	}
}

// modelFromNumber says by great numbers what at most eight bytes are.
func modelFromNumber(b []byte) (int64, api.Errno) {
	if len(b) == 0 {
		return 0, api.OK
	}
	digits := bytes.Clone(b)
	slices.Reverse(digits)
	negative := digits[0] >= 0x80
	digits[0] &= 0x7f
	// The last byte is needed only if it has more than a sign, or makes room for one.
	if digits[0] == 0 && (len(digits) == 1 || digits[1] < 0x80) {
		return 0, api.ErrForm
	}
	n := new(big.Int).SetBytes(digits)
	if negative {
		n.Neg(n)
	}
	return n.Int64(), api.OK
}

func expectNumber(t *testing.T, b []byte) {
	t.Helper()
	want, wantErr := modelFromNumber(b)
	n, err := script.FromNumber(b, 8)
	if n != want || err != wantErr {
		t.Fatalf("FromNumber(%x, 8) = %d, error %d; want %d, %d", b, n, err, want, wantErr)
	}
	if err == api.OK && !bytes.Equal(script.Number(n), b) {
		t.Fatalf("Number(%d) = %x; want %x", n, script.Number(n), b)
	}
}

// TestP11_2Inverse: what FromNumber reads, Number has written, and the other way round.
func TestP11_2Inverse(t *testing.T) {
	expectNumber(t, nil)
	for a := range 256 {
		expectNumber(t, []byte{byte(a)})
		for b := range 256 {
			expectNumber(t, []byte{byte(a), byte(b)})
		}
	}
	r := rand.New(rand.NewSource(2))
	edges := []byte{0, 1, 0x7f, 0x80, 0x81, 0xff}
	for range 50000 {
		b := make([]byte, 1+r.Intn(8))
		for i := range b {
			b[i] = byte(r.Intn(256))
			if r.Intn(2) == 0 {
				b[i] = edges[r.Intn(len(edges))]
			}
		}
		expectNumber(t, b)
		n := int64(r.Uint64()) >> r.Intn(64)
		if back, err := script.FromNumber(script.Number(n), 8); back != max(n, math.MinInt64+1) || err != api.OK {
			t.Fatalf("Number(%d) is read as %d, error %d", n, back, err)
		}
	}
	for n := int64(-70000); n <= 70000; n++ {
		if back, err := script.FromNumber(script.Number(n), 3); back != n || err != api.OK {
			t.Fatalf("Number(%d) is read as %d, error %d", n, back, err)
		}
	}
}

func TestP11_2Truth(t *testing.T) {
	for _, c := range []struct {
		b    string
		want bool
	}{
		{"", false},
		{"00", false},
		{"0000", false},
		{"0000000000", false},
		{"80", false},
		{"0080", false},
		{"00000080", false},
		{"01", true},
		{"7f", true},
		{"81", true},
		{"ff", true},
		{"8000", true},
		{"008000", true},
		{"800080", true},
		{"8080", true},
		{"808080", true},
		{"0081", true},
		{"0001", true},
		{"0100", true},
		{"0180", true},
		{"01000000", true},
		{"000100", true},
		{"00000040", true},
	} {
		if got := script.Truth(hexed(t, c.b)); got != c.want {
			t.Errorf("Truth(%s) = %v", c.b, got)
		}
	}
	if script.Truth(nil) || script.Truth(make([]byte, 10000)) || !script.Truth(append(make([]byte, 10000), 1)) {
		t.Errorf("Truth of nil, or of many bytes")
	}
}
