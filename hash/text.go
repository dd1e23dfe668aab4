package hash

import (
	"strings"

	"strongbox/api"
)

const digits = "0123456789abcdef"

// Text returns the digest as it is displayed, beginning with its last byte.
func Text(h api.Hash) string {
	out := make([]byte, 0, 2*len(h))
	for i := len(h) - 1; i >= 0; i-- {
		out = append(out, digits[h[i]>>4], digits[h[i]&15])
	}
	return string(out)
}

// FromText returns the digest that is displayed so, or ErrForm.
func FromText(s string) (api.Hash, api.Errno) {
	var h api.Hash
	if len(s) != 2*len(h) {
		return api.Hash{}, api.ErrForm
	}
	for i := range h {
		high := strings.IndexByte(digits, s[2*i])
		low := strings.IndexByte(digits, s[2*i+1])
		if high < 0 || low < 0 {
			return api.Hash{}, api.ErrForm
		}
		h[len(h)-1-i] = byte(high<<4 | low)
	}
	return h, api.OK
}
