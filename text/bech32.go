package text

import (
	"bytes"
	"slices"
	"strings"

	"strongbox/api"
)

const (
	mostBech32 = 90
	sumLetters = 6
)

// bech32Code is the code of BIP 173 and BIP 350.
var bech32Code = code{
	lower: 25,
	xors:  [5]uint64{0x3b6a57b2, 0x26508e6d, 0x1ea119fa, 0x3d4233dd, 0x2a1462b3},
}

// Bech32 returns the text of a human-readable part and values of five bits: BIP 350's if m is true, else BIP 173's.
func Bech32(hrp string, data []byte, m bool) (string, api.Errno) {
	// With a part of more than its 83 bytes the text is too long, too.
	if len(hrp)+1+len(data)+sumLetters > mostBech32 {
		return "", api.ErrSize
	}
	if !isPart(hrp) || slices.ContainsFunc(data, func(v byte) bool { return v > 31 }) {
		return "", api.ErrForm
	}
	return hrp + "1" + spell(slices.Concat(data, sum32(hrp, data, m)), letters32), api.OK
}

// FromBech32 returns the human-readable part in lower case, the values, and whether the text is that of m.
func FromBech32(s string) (string, []byte, bool, api.Errno) {
	if len(s) > mostBech32 {
		return "", nil, false, api.ErrSize
	}
	hrp, values, ok := split(s)
	if !ok {
		return "", nil, false, api.ErrForm
	}
	end := len(values) - sumLetters
	data, sum := values[:end:end], values[end:]
	for _, m := range [2]bool{false, true} {
		if bytes.Equal(sum, sum32(hrp, data, m)) {
			return hrp, data, m, api.OK
		}
	}
	return "", nil, false, api.ErrSum
}

// isPart: is it a human-readable part?
func isPart(hrp string) bool {
	return hrp != "" && isPrintable(hrp) && hrp == strings.ToLower(hrp)
}

func isPrintable(s string) bool {
	for i := range len(s) {
		if s[i] < 33 || s[i] > 126 {
			return false
		}
	}
	return true
}

// split returns the part ahead of the last 1 in lower case, and the values behind it with those of the checksum, or false if s has not this form.
func split(s string) (string, []byte, bool) {
	if !isPrintable(s) {
		return "", nil, false
	}
	low := strings.ToLower(s)
	if s != low && s != strings.ToUpper(s) {
		return "", nil, false
	}
	at := strings.LastIndexByte(low, '1')
	if at < 1 {
		return "", nil, false
	}
	values, ok := places(low[at+1:], letters32)
	if !ok || len(values) < sumLetters {
		return "", nil, false
	}
	return low[:at], values, true
}

// sum32 returns the six values of the checksum.
func sum32(hrp string, data []byte, m bool) []byte {
	c := uint64(1)
	for i := range len(hrp) {
		c = bech32Code.step(c, hrp[i]>>5)
	}
	c = bech32Code.step(c, 0)
	for i := range len(hrp) {
		c = bech32Code.step(c, hrp[i]&31)
	}
	c = bech32Code.step(c, data...)
	c = bech32Code.step(c, make([]byte, sumLetters)...)
	return fives(c^lastXor(m), sumLetters)
}

func lastXor(m bool) uint64 {
	if m {
		return 0x2bc830a3
	}
	return 1
}
