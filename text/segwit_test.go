package text_test

import (
	"bytes"
	"math"
	"strings"
	"testing"

	"strongbox/api"
	"strongbox/text"
)

// toSegwit holds Segwit against an answer.
func toSegwit(t *testing.T, hrp string, version int, program []byte, want string, wantErr api.Errno) {
	t.Helper()
	if got, err := text.Segwit(hrp, version, program); got != want || err != wantErr {
		t.Errorf("Segwit(%q, %d, %x) = %q, error %d; want %q, %d", hrp, version, program, got, err, want, wantErr)
	}
}

// fromSegwit holds FromSegwit against an answer.
func fromSegwit(t *testing.T, hrp, s string, version int, program []byte, wantErr api.Errno) {
	t.Helper()
	gotVersion, got, err := text.FromSegwit(hrp, s)
	if gotVersion != version {
		t.Errorf("FromSegwit of %q: version %d, want %d", s, gotVersion, version)
	}
	expectBytes(t, "FromSegwit of "+s, got, err, program, wantErr)
}

func TestP3_2SegwitExamples(t *testing.T) {
	point := "751e76e8199196d454941c45d1b3a323f1433bd6"
	cases := []struct {
		s       string
		version int
		program string
	}{
		// BIP 350.
		{"bc1qw508d6qejxtdg4y5r3zarvary0c5xw7kv8f3t4", 0, point},
		{"tb1qrp33g0q5c5txsp9arysrx4k6zdkfs4nce4xj0gdcccefvpysxf3q0sl5k7", 0, "1863143c14c5166804bd19203356da136c985678cd4d27a1b8c6329604903262"},
		{"bc1pw508d6qejxtdg4y5r3zarvary0c5xw7kw508d6qejxtdg4y5r3zarvary0c5xw7kt5nd6y", 1, point + point},
		{"bc1sw50qgdz25j", 16, "751e"},
		{"bc1zw508d6qejxtdg4y5r3zarvaryvaxxpcs", 2, "751e76e8199196d454941c45d1b3a323"},
		{"tb1qqqqqp399et2xygdj5xreqhjjvcmzhxw4aywxecjdzew6hylgvsesrxh6hy", 0, "000000c4a5cad46221b2a187905e5266362b99d5e91c6ce24d165dab93e86433"},
		{"tb1pqqqqp399et2xygdj5xreqhjjvcmzhxw4aywxecjdzew6hylgvsesf3hn0c", 1, "000000c4a5cad46221b2a187905e5266362b99d5e91c6ce24d165dab93e86433"},
		{"bc1p0xlxvlhemja6c4dqv22uapctqupfhlxm9h8z3k2e72q4k9hcz7vqzk5jj0", 1, "79be667ef9dcbbac55a06295ce870b07029bfcdb2dce28d959f2815b16f81798"},
	}
	for _, c := range cases {
		toSegwit(t, c.s[:2], c.version, unhex(c.program), c.s, api.OK)
		fromSegwit(t, c.s[:2], c.s, c.version, unhex(c.program), api.OK)
		fromSegwit(t, c.s[:2], strings.ToUpper(c.s), c.version, unhex(c.program), api.OK)
	}
}

// TestP3_2SegwitAll has all versions and sizes, and some on either side.
func TestP3_2SegwitAll(t *testing.T) {
	for version := -1; version <= 18; version++ {
		for size := range 60 {
			program := message(size)
			s, err := text.Segwit("bc", version, program)
			want := api.OK
			switch {
			case version < 0 || version > 16:
				want = api.ErrArg
			case size < 2 || size > 40 || version == 0 && size != 20 && size != 32:
				want = api.ErrSize
			}
			if err != want || (s == "") != (want != api.OK) {
				t.Errorf("version %d, %d bytes: %q, error %d, want %d", version, size, s, err, want)
			}
			if err == api.OK {
				fromSegwit(t, "bc", s, version, program, api.OK)
			}
		}
	}
	toSegwit(t, "bc", math.MinInt, message(20), "", api.ErrArg)
	toSegwit(t, "bc", math.MaxInt, message(20), "", api.ErrArg)
	toSegwit(t, "bc", 256, message(20), "", api.ErrArg)
	toSegwit(t, "bc", 1, message(100000), "", api.ErrSize)
}

func TestP3_2SegwitParts(t *testing.T) {
	for _, hrp := range []string{"", "BC", "b c", "b\x7f", "é"} {
		toSegwit(t, hrp, 1, message(32), "", api.ErrForm)
		toSegwit(t, hrp, 1, message(41), "", api.ErrSize)
		toSegwit(t, hrp, 17, message(32), "", api.ErrArg)
	}
	// 1, 1, 52 and 6 letters behind the part.
	longest := strings.Repeat("x", 30)
	if s, err := text.Segwit(longest, 1, message(32)); err != api.OK || len(s) != 90 {
		t.Errorf("a part of 30 bytes: %q, error %d", s, err)
	} else {
		fromSegwit(t, longest, s, 1, message(32), api.OK)
	}
	toSegwit(t, longest+"x", 1, message(32), "", api.ErrSize)
	toSegwit(t, strings.Repeat("X", 31), 1, message(32), "", api.ErrSize)
	toSegwit(t, strings.Repeat("x", 84), 1, message(2), "", api.ErrSize)
}

func TestP3_2SegwitOtherParts(t *testing.T) {
	s := "bc1qw508d6qejxtdg4y5r3zarvary0c5xw7kv8f3t4"
	for _, hrp := range []string{"", "b", "bcc", "tb", "BC", "bc1", "bc1q", strings.Repeat("x", 100)} {
		fromSegwit(t, hrp, s, 0, nil, api.ErrNone)
	}
	fromSegwit(t, "BC", strings.ToUpper(s), 0, nil, api.ErrNone)
	fromSegwit(t, "tb", s[:len(s)-1]+"5", 0, nil, api.ErrSum)
	fromSegwit(t, "tb", strings.ToUpper(s[:9])+s[9:], 0, nil, api.ErrForm)
	fromSegwit(t, "tb", s+strings.Repeat("q", 60), 0, nil, api.ErrSize)
}

// address returns the text of values that may stand for no program.
func address(values []byte, m bool) string {
	s, err := text.Bech32("bc", values, m)
	if err != api.OK {
		panic(err)
	}
	return s
}

// values32 returns a version and a program's values.
func values32(version byte, program []byte) []byte {
	values, _ := plainRegroup(program, 8, 5, true)
	return append([]byte{version}, values...)
}

func TestP3_2SegwitForms(t *testing.T) {
	for _, m := range []bool{false, true} {
		s := address(nil, m)
		fromSegwit(t, "bc", s, 0, nil, api.ErrForm)
		fromSegwit(t, "tb", s, 0, nil, api.ErrNone)
		for version := range byte(32) {
			for _, size := range []int{1, 2, 20, 32, 40, 41} {
				want := api.OK
				switch {
				case version > 16 || m != (version > 0):
					want = api.ErrForm
				case size < 2 || size > 40 || version == 0 && size != 20 && size != 32:
					want = api.ErrSize
				}
				program := message(size)
				s := address(values32(version, program), m)
				fromSegwit(t, "tb", s, 0, nil, api.ErrNone)
				if want == api.OK {
					fromSegwit(t, "bc", s, int(version), program, api.OK)
				} else {
					fromSegwit(t, "bc", s, 0, nil, want)
				}
			}
		}
	}
}

func TestP3_2SegwitPadding(t *testing.T) {
	for size := range 42 {
		values := values32(1, message(size))
		free := 5*(len(values)-1) - 8*size
		for bit := range free {
			bad := bytes.Clone(values)
			bad[len(bad)-1] |= 1 << bit
			fromSegwit(t, "bc", address(bad, true), 0, nil, api.ErrForm)
		}
		more := append(bytes.Clone(values), 0)
		if free+5 < 8 {
			// One value more, all of it padding.
			fromSegwit(t, "bc", address(more, true), 0, nil, api.ErrForm)
		}
	}
	fromSegwit(t, "bc", address([]byte{1}, true), 0, nil, api.ErrSize)
	fromSegwit(t, "bc", address([]byte{0}, false), 0, nil, api.ErrSize)
	fromSegwit(t, "bc", address([]byte{1, 0}, true), 0, nil, api.ErrForm)
	// 41 bytes, and a padding that is not zero.
	fromSegwit(t, "bc", address(append(values32(1, message(41))[:66], 31), true), 0, nil, api.ErrForm)
}

func TestP3_2SegwitBadExamples(t *testing.T) {
	for s, want := range map[string]api.Errno{
		"tc1p0xlxvlhemja6c4dqv22uapctqupfhlxm9h8z3k2e72q4k9hcz7vq5zuyut": api.ErrNone,
		"bc1p0xlxvlhemja6c4dqv22uapctqupfhlxm9h8z3k2e72q4k9hcz7vqh2y7hd": api.ErrForm,
		"BC1S0XLXVLHEMJA6C4DQV22UAPCTQUPFHLXM9H8Z3K2E72Q4K9HCZ7VQ54WELL": api.ErrForm,
		"bc1qw508d6qejxtdg4y5r3zarvary0c5xw7kemeawh":                     api.ErrForm,
		"bc1p38j9r5y49hruaue7wxjce0updqjuyyx0kh56v8s25huc6995vvpql3jow4": api.ErrForm,
		"BC130XLXVLHEMJA6C4DQV22UAPCTQUPFHLXM9H8Z3K2E72Q4K9HCZ7VQ7ZWS8R": api.ErrForm,
		"bc1pw5dgrnzv": api.ErrSize,
		"bc1p0xlxvlhemja6c4dqv22uapctqupfhlxm9h8z3k2e72q4k9hcz7v8n0nx0muaewav253zgeav": api.ErrSize,
		"BC1QR508D6QEJXTDG4Y5R3ZARVARYV98GJ9P":                                         api.ErrSize,
		"bc1p0xlxvlhemja6c4dqv22uapctqupfhlxm9h8z3k2e72q4k9hcz7v07qwwzcrf":             api.ErrForm,
		"bc1gmk9yu": api.ErrForm,
	} {
		fromSegwit(t, "bc", s, 0, nil, want)
	}
	for _, s := range []string{
		"tb1z0xlxvlhemja6c4dqv22uapctqupfhlxm9h8z3k2e72q4k9hcz7vqglt7rf",
		"tb1q0xlxvlhemja6c4dqv22uapctqupfhlxm9h8z3k2e72q4k9hcz7vq24jc47",
		"tb1p0xlxvlhemja6c4dqv22uapctqupfhlxm9h8z3k2e72q4k9hcz7vq47Zagq",
		"tb1p0xlxvlhemja6c4dqv22uapctqupfhlxm9h8z3k2e72q4k9hcz7vpggkg4j",
	} {
		fromSegwit(t, "tb", s, 0, nil, api.ErrForm)
	}
}
