package text_test

import (
	"bytes"
	"crypto/sha256"
	"math/big"
	"slices"
	"strings"
	"testing"

	"strongbox/api"
	"strongbox/text"
)

const digits58 = "123456789ABCDEFGHJKLMNPQRSTUVWXYZabcdefghijkmnopqrstuvwxyz"

// plain58 is Base58 as the document says it.
func plain58(b []byte) string {
	n, rest := new(big.Int).SetBytes(b), new(big.Int)
	var out []byte
	for n.Sign() > 0 {
		n.DivMod(n, big.NewInt(58), rest)
		out = append(out, digits58[rest.Int64()])
	}
	for i := 0; i < len(b) && b[i] == 0; i++ {
		out = append(out, '1')
	}
	slices.Reverse(out)
	return string(out)
}

// fromBase58 holds FromBase58 of s against an answer.
func fromBase58(t *testing.T, s string, want []byte, wantErr api.Errno) {
	t.Helper()
	got, err := text.FromBase58(s)
	expectBytes(t, "FromBase58 of "+s, got, err, want, wantErr)
}

// fromCheck58 holds FromCheck58 of s against an answer.
func fromCheck58(t *testing.T, s string, want []byte, wantErr api.Errno) {
	t.Helper()
	got, err := text.FromCheck58(s)
	expectBytes(t, "FromCheck58 of "+s, got, err, want, wantErr)
}

func TestP3_1Base58Examples(t *testing.T) {
	for b, want := range map[string]string{
		"":                     "",
		"00":                   "1",
		"0000":                 "11",
		"000001":               "112",
		"01":                   "2",
		"39":                   "z",
		"3a":                   "21",
		"61":                   "2g",
		"626262":               "a3gV",
		"636363":               "aPEr",
		"516b6fcd0f":           "ABnLTmg",
		"bf4f89001e670274dd":   "3SEo3LWLoPntC",
		"572e4794":             "3EFU7m",
		"ecac89cad93923c02321": "EJDM8drfXA6uyA",
		"00000000000000000000": "1111111111",
		"00eb15231dfceb60925886b67d065299925915aeb172c06647": "1NS17iag9jJgTHD1VXjvLCEnZuQ3rJDE9L",
	} {
		if got := text.Base58(unhex(b)); got != want {
			t.Errorf("Base58(%s) = %s, want %s", b, got, want)
		}
		fromBase58(t, want, unhex(b), api.OK)
	}
}

// TestP3_1Base58ThereAndBack has lists of all lengths whose texts are short enough, with any leading zero bytes.
func TestP3_1Base58ThereAndBack(t *testing.T) {
	for n := range 181 {
		for zeros := range min(n+1, 6) {
			for _, b := range [][]byte{message(n), bytes.Repeat([]byte{255}, n), make([]byte, n)} {
				clear(b[:zeros])
				s := text.Base58(b)
				if s != plain58(b) {
					t.Fatalf("Base58(%x) = %s, want %s", b, s, plain58(b))
				}
				fromBase58(t, s, b, api.OK)
			}
		}
	}
	if long := message(1500); text.Base58(long) != plain58(long) {
		t.Errorf("Base58 of 1500 bytes")
	}
}

// TestP3_1TextsThereAndBack has texts of all lengths, with leading digits 1.
func TestP3_1TextsThereAndBack(t *testing.T) {
	for n := range 251 {
		for _, first := range []int{0, 1, 57} {
			digits := make([]byte, n)
			for i := range digits {
				digits[i] = digits58[(first*i*(i+3)/2+first)%58]
			}
			s := string(digits)
			b, err := text.FromBase58(s)
			if err != api.OK || text.Base58(b) != s {
				t.Errorf("%s is read as %x, error %d, which is written %s", s, b, err, text.Base58(b))
			}
		}
	}
}

func TestP3_1Base58Sizes(t *testing.T) {
	fromBase58(t, strings.Repeat("1", 250), make([]byte, 250), api.OK)
	fromBase58(t, strings.Repeat("1", 251), nil, api.ErrSize)
	z := strings.Repeat("z", 250)
	if b, err := text.FromBase58(z); err != api.OK || plain58(b) != z {
		t.Errorf("250 digits z: %x, error %d", b, err)
	}
	fromBase58(t, z+"z", nil, api.ErrSize)
	fromBase58(t, strings.Repeat("z", 100000), nil, api.ErrSize)
	// Too long, and of another form, too.
	fromBase58(t, strings.Repeat("0", 251), nil, api.ErrSize)
	fromBase58(t, strings.Repeat("0", 250), nil, api.ErrForm)
	fromCheck58(t, strings.Repeat("1", 251), nil, api.ErrSize)
	fromCheck58(t, strings.Repeat("0", 251), nil, api.ErrSize)
	fromCheck58(t, strings.Repeat("0", 250), nil, api.ErrForm)
}

func TestP3_1Base58OtherLetters(t *testing.T) {
	for n := range 256 {
		letter := string([]byte{byte(n)})
		if strings.Contains(digits58, letter) {
			continue
		}
		for _, s := range []string{letter, "1" + letter, letter + "1", "2g" + letter + "z"} {
			fromBase58(t, s, nil, api.ErrForm)
			fromCheck58(t, s, nil, api.ErrForm)
		}
	}
}

// withSum returns the bytes and their checksum.
func withSum(b []byte) []byte {
	once := sha256.Sum256(b)
	twice := sha256.Sum256(once[:])
	return slices.Concat(b, twice[:4])
}

func TestP3_1Check58(t *testing.T) {
	if s := text.Check58([]byte{0}); s != "1Wh4bh" {
		t.Errorf("Check58(00) = %s", s)
	}
	if s := text.Check58(nil); s != "3QJmnh" {
		t.Errorf("Check58() = %s", s)
	}
	if s := text.Check58(unhex("0062e907b15cbf27d5425399ebf6f0fb50ebb88f18")); s != "1A1zP1eP5QGefi2DMPTfTL5SLmv7DivfNa" {
		t.Errorf("Check58 of 21 bytes = %s", s)
	}
	for n := range 178 {
		for _, b := range [][]byte{message(n), make([]byte, n), append([]byte{0, 0}, message(n-n%2)...)} {
			s := text.Check58(b)
			if s != plain58(withSum(b)) {
				t.Errorf("Check58(%x) = %s", b, s)
			}
			if len(s) <= 250 {
				fromCheck58(t, s, b, api.OK)
			}
		}
	}
}

func TestP3_1Check58Ends(t *testing.T) {
	for _, b := range [][]byte{nil, {0}, {9}, {0, 0}, {0, 0, 0}, {255, 255, 255}} {
		fromCheck58(t, plain58(b), nil, api.ErrEnd)
	}
	fromCheck58(t, plain58([]byte{0, 0, 0, 0}), nil, api.ErrSum)
	fromCheck58(t, plain58(withSum(nil)), nil, api.OK)
}

func TestP3_1Check58Sums(t *testing.T) {
	for _, b := range [][]byte{nil, {0}, message(21), message(78)} {
		good := withSum(b)
		for i := range good {
			for bit := range 8 {
				bad := bytes.Clone(good)
				bad[i] ^= 1 << bit
				fromCheck58(t, plain58(bad), nil, api.ErrSum)
			}
		}
		fromCheck58(t, "1"+plain58(good), nil, api.ErrSum)
	}
}
