package text_test

import (
	"strings"
	"testing"

	"strongbox/api"
	"strongbox/text"
)

const descriptorBytes = "0123456789()[],'/*abcdefgh@:$%{}IJKLMNOPQRSTUVWXYZ&+-.;<=>?!^_|~ijklmnopqrstuvwxyzABCDEFGH`#\"\\ "

// plainChecksum is Checksum as the document says it: all that is taken in is listed first.
func plainChecksum(s string) string {
	var steps, groups []uint64
	for i := range len(s) {
		p := uint64(strings.IndexByte(descriptorBytes, s[i]))
		steps = append(steps, p%32)
		groups = append(groups, p/32)
		if n := len(groups); n%3 == 0 {
			steps = append(steps, 9*groups[n-3]+3*groups[n-2]+groups[n-1])
		}
	}
	switch n := len(groups); n % 3 {
	case 1:
		steps = append(steps, groups[n-1])
	case 2:
		steps = append(steps, 3*groups[n-2]+groups[n-1])
	}
	c := uint64(1)
	for _, v := range append(steps, make([]uint64, 8)...) {
		b := c / (1 << 35)
		c = c%(1<<35)*32 ^ v
		for i, x := range []uint64{0xF5DEE51989, 0xA9FDCA3312, 0x1BAB10E32D, 0x3706B1677A, 0x644D626FFD} {
			if b/(1<<i)%2 == 1 {
				c ^= x
			}
		}
	}
	c ^= 1
	out := ""
	for range 8 {
		out = string(letters32[c%32]) + out
		c /= 32
	}
	return out
}

func TestP3_3ChecksumExamples(t *testing.T) {
	for s, want := range map[string]string{
		"raw(deadbeef)": "89f8spxm",
		"pk(0279be667ef9dcbbac55a06295ce870b07029bfcdb2dce28d959f2815b16f81798)":                                                                         "gn28ywm7",
		"pkh(02c6047f9441ed7d6d3045406e95c07cd85c778e4b8cef3ca7abac09b95c709ee5)":                                                                        "8fhd9pwu",
		"wpkh(02f9308a019258c31049344f85f89d5229b531c845836f99b08601f113bce036f9)":                                                                       "8zl0zxma",
		"sh(wpkh(03fff97bd5755eeea420453a14355235d382f6472f8568a18b2f057a1460297556))":                                                                   "qkrrc7je",
		"combo(0279be667ef9dcbbac55a06295ce870b07029bfcdb2dce28d959f2815b16f81798)":                                                                      "lq9sf04s",
		"sh(wsh(pkh(02e493dbf1c10d80f3581e4904930b1404cc6c13900ee0758474fa94abe8c4cd13)))":                                                               "2wtr0ej5",
		"multi(1,022f8bde4d1a07209355b4a7250a5c5128e88b84bddc619ab7cba8d569b240efe4,025cbdf0646e5db4eaa398f365f2ea7a0e3d419b7e0330e39ce92bddedcac4f9bc)": "hzhjw406",
	} {
		if got, err := text.Checksum(s); got != want || err != api.OK {
			t.Errorf("Checksum(%q) = %q, error %d; want %q", s, got, err, want)
		}
	}
}

// expectChecksum holds Checksum of s against the plain one.
func expectChecksum(t *testing.T, s string) {
	t.Helper()
	if got, err := text.Checksum(s); got != plainChecksum(s) || err != api.OK {
		t.Errorf("Checksum(%q) = %q, error %d; want %q", s, got, err, plainChecksum(s))
	}
}

func TestP3_3ChecksumOfAnyBytes(t *testing.T) {
	for n := range 200 {
		s := make([]byte, n)
		for i := range s {
			s[i] = descriptorBytes[(i*i+7*n)%95]
		}
		expectChecksum(t, string(s))
	}
	for i := range descriptorBytes {
		for _, s := range []string{descriptorBytes[i : i+1], descriptorBytes[i:], descriptorBytes[:i], "a" + descriptorBytes[i:i+1], "aI" + descriptorBytes[i:i+1]} {
			expectChecksum(t, s)
		}
	}
	expectChecksum(t, strings.Repeat(descriptorBytes, 1000))
}

func TestP3_3ChecksumOtherBytes(t *testing.T) {
	for n := range 256 {
		letter := string([]byte{byte(n)})
		if strings.Contains(descriptorBytes, letter) {
			continue
		}
		if n >= 32 && n <= 126 {
			t.Errorf("the byte %d should have a position", n)
		}
		for _, s := range []string{letter, "raw(" + letter + ")", letter + "raw", "raw" + letter} {
			if got, err := text.Checksum(s); got != "" || err != api.ErrForm {
				t.Errorf("Checksum(%q) = %q, error %d", s, got, err)
			}
		}
	}
	if got, err := text.Checksum("é"); got != "" || err != api.ErrForm {
		t.Errorf("two bytes above 126: %q, error %d", got, err)
	}
}

// TestP3_4ChecksumOneLetter changes each byte of some descriptors to each other one that has a position.
func TestP3_4ChecksumOneLetter(t *testing.T) {
	for _, s := range []string{"a", "ab", "raw(deadbeef)", "wpkh([d34db33f/84'/0'/0']xpub6/0/*)", descriptorBytes, strings.Repeat("k(9H ", 30)} {
		want, _ := text.Checksum(s)
		for at := range len(s) {
			for i := range len(descriptorBytes) {
				if descriptorBytes[i] == s[at] {
					continue
				}
				changed := s[:at] + descriptorBytes[i:i+1] + s[at+1:]
				if got, err := text.Checksum(changed); got == want || err != api.OK {
					t.Errorf("Checksum of %q and of %q: %s, error %d", s, changed, got, err)
				}
			}
		}
	}
}
