package hash_test

import (
	"strings"
	"testing"

	"strongbox/api"
	"strongbox/hash"
)

func TestP2_4Text(t *testing.T) {
	var h api.Hash
	for i := range h {
		h[i] = byte(i)
	}
	h[31] = 0xfa
	want := "fa1e1d1c1b1a191817161514131211100f0e0d0c0b0a09080706050403020100"
	if s := hash.Text(h); s != want {
		t.Errorf("Text = %s", s)
	}
	if got, e := hash.FromText(want); e != api.OK || got != h {
		t.Errorf("FromText = %x, %d", got, e)
	}
	if s := hash.Text(api.Hash{}); s != strings.Repeat("0", 64) {
		t.Errorf("Text of zero = %s", s)
	}
}

func TestP2_4ThereAndBack(t *testing.T) {
	for n := range 256 {
		var h api.Hash
		for i := range h {
			h[i] = byte(n + 5*i)
		}
		if got, e := hash.FromText(hash.Text(h)); e != api.OK || got != h {
			t.Errorf("%x comes back as %x, %d", h, got, e)
		}
	}
}

// expectNoText holds that s is no digest's text.
func expectNoText(t *testing.T, s string) {
	t.Helper()
	if h, e := hash.FromText(s); e != api.ErrForm || h != (api.Hash{}) {
		t.Errorf("FromText(%q) = %x, %d", s, h, e)
	}
}

func TestP2_4OtherLengths(t *testing.T) {
	for n := range 200 {
		if n != 64 {
			expectNoText(t, strings.Repeat("1", n))
		}
	}
	good := strings.Repeat("1", 64)
	for _, s := range []string{" " + good, good + " ", good + "\n", "0x" + good[2:], "0x" + good} {
		expectNoText(t, s)
	}
}

func TestP2_4OtherLetters(t *testing.T) {
	good := strings.Repeat("a5", 32)
	for at := range good {
		for letter := range 256 {
			s := good[:at] + string([]byte{byte(letter)}) + good[at+1:]
			if strings.IndexByte("0123456789abcdef", byte(letter)) < 0 {
				expectNoText(t, s)
			} else if h, e := hash.FromText(s); e != api.OK || hash.Text(h) != s {
				t.Errorf("FromText(%q): %d", s, e)
			}
		}
	}
	expectNoText(t, strings.ToUpper(good))
	expectNoText(t, strings.Repeat("\u00e9", 32))
	expectNoText(t, strings.Repeat("\u0661", 32))
}
