package text_test

import (
	"bytes"
	"strings"
	"testing"

	"strongbox/api"
	"strongbox/text"
)

const letters32 = "qpzry9x8gf2tvdw0s3jn54khce6mua7l"

// fromBech32 holds FromBech32 of s against an answer.
func fromBech32(t *testing.T, s, hrp string, data []byte, m bool, wantErr api.Errno) {
	t.Helper()
	gotPart, got, gotM, err := text.FromBech32(s)
	if gotPart != hrp || gotM != m {
		t.Errorf("FromBech32 of %q: part %q, %v; want %q, %v", s, gotPart, gotM, hrp, m)
	}
	expectBytes(t, "FromBech32 of "+s, got, err, data, wantErr)
}

func noBech32(t *testing.T, s string, wantErr api.Errno) {
	t.Helper()
	fromBech32(t, s, "", nil, false, wantErr)
}

// toBech32 holds Bech32 against an answer.
func toBech32(t *testing.T, hrp string, data []byte, m bool, want string, wantErr api.Errno) {
	t.Helper()
	if got, err := text.Bech32(hrp, data, m); got != want || err != wantErr {
		t.Errorf("Bech32(%q, %x, %v) = %q, error %d; want %q, %d", hrp, data, m, got, err, want, wantErr)
	}
}

// counted returns the values 0 to 31, or these from the last one on.
func counted(down bool) []byte {
	out := make([]byte, 32)
	for i := range out {
		out[i] = byte(i)
		if down {
			out[i] = byte(31 - i)
		}
	}
	return out
}

func TestP3_2Bech32Examples(t *testing.T) {
	longest := "an83characterlonghumanreadablepartthatcontains"
	cases := []struct {
		s, hrp string
		data   []byte
		m      bool
	}{
		// BIP 173.
		{"a12uel5l", "a", nil, false},
		{longest + "thenumber1andtheexcludedcharactersbio1tt5tgs", longest + "thenumber1andtheexcludedcharactersbio", nil, false},
		{"abcdef1qpzry9x8gf2tvdw0s3jn54khce6mua7lmqqqxw", "abcdef", counted(false), false},
		{"11" + strings.Repeat("q", 82) + "c8247j", "1", make([]byte, 82), false},
		{"?1ezyfcl", "?", nil, false},
		// BIP 350.
		{"a1lqfn3a", "a", nil, true},
		{longest + "thetheexcludedcharactersbioandnumber11sg7hg6", longest + "thetheexcludedcharactersbioandnumber1", nil, true},
		{"abcdef1l7aum6echk45nj3s0wdvt2fg8x9yrzpqzd3ryx", "abcdef", counted(true), true},
		{"11" + strings.Repeat("l", 82) + "ludsr8", "1", bytes.Repeat([]byte{31}, 82), true},
		{"?1v759aa", "?", nil, true},
	}
	for _, c := range cases {
		toBech32(t, c.hrp, c.data, c.m, c.s, api.OK)
		fromBech32(t, c.s, c.hrp, c.data, c.m, api.OK)
		fromBech32(t, strings.ToUpper(c.s), c.hrp, c.data, c.m, api.OK)
	}
}

func TestP3_2Bech32ThereAndBack(t *testing.T) {
	parts := []string{"a", "bc", "1", "111", "a1b1", "!~", strings.Repeat("z", 40), strings.Repeat("1", 83)}
	for _, hrp := range parts {
		for n := 0; len(hrp)+1+n+6 <= 90; n++ {
			data := message(n)
			for i := range data {
				data[i] &= 31
			}
			for _, m := range []bool{false, true} {
				s, err := text.Bech32(hrp, data, m)
				if err != api.OK || len(s) != len(hrp)+1+n+6 {
					t.Fatalf("Bech32(%q, %x) = %q, error %d", hrp, data, s, err)
				}
				fromBech32(t, s, hrp, data, m, api.OK)
				if other, _ := text.Bech32(hrp, data, !m); other == s {
					t.Errorf("%q is both", s)
				}
			}
		}
	}
}

func TestP3_2Bech32Sizes(t *testing.T) {
	part := strings.Repeat("a", 83)
	if s, err := text.Bech32(part, nil, false); err != api.OK || len(s) != 90 {
		t.Errorf("a part of 83 bytes: %q, error %d", s, err)
	}
	toBech32(t, part, []byte{0}, false, "", api.ErrSize)
	toBech32(t, part+"a", nil, true, "", api.ErrSize)
	if s, err := text.Bech32("a", make([]byte, 82), false); err != api.OK || len(s) != 90 {
		t.Errorf("82 values: %q, error %d", s, err)
	}
	toBech32(t, "a", make([]byte, 83), false, "", api.ErrSize)
	toBech32(t, "a", make([]byte, 100000), false, "", api.ErrSize)
	// Too long, and of another form, too.
	toBech32(t, part+"A", nil, false, "", api.ErrSize)
	toBech32(t, "A", make([]byte, 83), false, "", api.ErrSize)
	toBech32(t, "a", bytes.Repeat([]byte{32}, 83), false, "", api.ErrSize)
	toBech32(t, "", make([]byte, 84), false, "", api.ErrSize)
	toBech32(t, "", make([]byte, 83), false, "", api.ErrForm)

	long := "11" + strings.Repeat("q", 82) + "c8247j"
	noBech32(t, "q"+long, api.ErrSize)
	noBech32(t, long+"q", api.ErrSize)
	noBech32(t, strings.Repeat("\x00", 91), api.ErrSize)
	noBech32(t, strings.Repeat("\x00", 90), api.ErrForm)
	noBech32(t, "an84characterslonghumanreadablepartthatcontainsthenumber1andtheexcludedcharactersbio1569pvx", api.ErrSize)
}

func TestP3_2Bech32Parts(t *testing.T) {
	toBech32(t, "", nil, false, "", api.ErrForm)
	for n := range 256 {
		letter := string([]byte{byte(n)})
		for _, hrp := range []string{letter, "a" + letter, letter + "1"} {
			s, err := text.Bech32(hrp, nil, false)
			if n < 33 || n > 126 || letter != strings.ToLower(letter) {
				toBech32(t, hrp, nil, false, "", api.ErrForm)
				noBech32(t, hrp+"12uel5l", api.ErrForm)
			} else if err != api.OK {
				t.Errorf("Bech32 of %q: error %d", hrp, err)
			} else {
				fromBech32(t, s, hrp, nil, false, api.OK)
			}
		}
	}
	toBech32(t, "é", nil, false, "", api.ErrForm)
	for v := range 256 {
		_, err := text.Bech32("a", []byte{1, byte(v)}, true)
		if (v > 31) != (err == api.ErrForm) {
			t.Errorf("the value %d: error %d", v, err)
		}
	}
}

func TestP3_2Bech32Cases(t *testing.T) {
	s := "abcdef1qpzry9x8gf2tvdw0s3jn54khce6mua7lmqqqxw"
	for i := range len(s) {
		if c := s[i]; c >= 'a' && c <= 'z' {
			noBech32(t, s[:i]+strings.ToUpper(s[i:i+1])+s[i+1:], api.ErrForm)
		}
	}
	up := strings.ToUpper(s)
	for i := range len(up) {
		if c := up[i]; c >= 'A' && c <= 'Z' {
			noBech32(t, up[:i]+strings.ToLower(up[i:i+1])+up[i+1:], api.ErrForm)
		}
	}
	fromBech32(t, up, "abcdef", counted(false), false, api.OK)
	noBech32(t, "ABCDEF"+s[6:], api.ErrForm)
	noBech32(t, "abcdef"+up[6:], api.ErrForm)
	// In both cases, and with a wrong checksum, too.
	noBech32(t, "Abcdef1qqqqqq", api.ErrForm)
	// A part without letters goes with either case.
	fromBech32(t, "?1EZYFCL", "?", nil, false, api.OK)
}

// TestP3_2Bech32LastOne puts the last 1 at every place of a text.
func TestP3_2Bech32LastOne(t *testing.T) {
	for n := 1; n <= 90; n++ {
		noBech32(t, strings.Repeat("q", n), api.ErrForm)
		for at := range n {
			letters := bytes.Repeat([]byte{'q'}, n)
			letters[at] = '1'
			want := api.ErrForm
			if at > 0 && n-at-1 >= 6 {
				want = api.ErrSum
			}
			noBech32(t, string(letters), want)
		}
	}
	noBech32(t, "", api.ErrForm)
	noBech32(t, "1", api.ErrForm)
	noBech32(t, strings.Repeat("1", 90), api.ErrForm)
	noBech32(t, "1ezyfcl", api.ErrForm)
	// The last 1 is what ends the part: the values behind another one are part of it.
	if s, err := text.Bech32("a1qqq", nil, true); err != api.OK || s[:6] != "a1qqq1" {
		t.Errorf("%q, error %d", s, err)
	} else {
		fromBech32(t, s, "a1qqq", nil, true, api.OK)
	}
}

func TestP3_2Bech32OtherLetters(t *testing.T) {
	s := "abcdef1qpzry9x8gf2tvdw0s3jn54khce6mua7lmqqqxw"
	for at := range len(s) {
		for n := range 256 {
			letter := string([]byte{byte(n)})
			if at > 6 && strings.Contains(letters32+"1", letter) || at <= 6 && n >= 33 && n <= 126 {
				continue
			}
			noBech32(t, s[:at]+letter+s[at+1:], api.ErrForm)
		}
	}
	for _, bad := range []string{"\x201nwldj5", "\x7f1axkwrx", "\x801eym55h", "pzry9x0s0muk", "1pzry9x0s0muk", "x1b4n0q5v", "li1dgmt3", "de1lg7wt\xff", "10a06t8", "1qzzfhee"} {
		noBech32(t, bad, api.ErrForm)
	}
	noBech32(t, "A1G7SGD8", api.ErrSum)
	noBech32(t, "M1VUXWEZ", api.ErrSum)
}

// TestP3_4Bech32OneLetter changes each letter behind the last 1 to each other one, and each of the part.
func TestP3_4Bech32OneLetter(t *testing.T) {
	for _, m := range []bool{false, true} {
		for _, hrp := range []string{"a", "bc", "a1b1", strings.Repeat("1", 83), strings.Repeat("x", 50)} {
			for n := 0; len(hrp)+n+7 <= 90; n += 11 {
				s, _ := text.Bech32(hrp, counted(m)[:min(n, 32)], m)
				for at := len(hrp) + 1; at < len(s); at++ {
					changeLetter(t, s, at, letters32)
				}
				for at := range len(hrp) {
					changeLetter(t, s, at, "!02456789?abcdefghijklmnopqrstuvwxyz~1")
				}
			}
		}
	}
}

// changeLetter holds that s is no text any more with another letter there.
func changeLetter(t *testing.T, s string, at int, letters string) {
	t.Helper()
	for i := range len(letters) {
		if letters[i] != s[at] {
			noBech32(t, s[:at]+letters[i:i+1]+s[at+1:], api.ErrSum)
		}
	}
}
