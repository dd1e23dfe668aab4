package text

import "strongbox/api"

// hexDigits: each digit at its value, and the six upper-case ones six behind theirs.
const hexDigits = "0123456789abcdefABCDEF"

// Hex returns two digits in lower case for each byte.
func Hex(b []byte) string {
	values := make([]byte, 0, 2*len(b))
	for _, n := range b {
		values = append(values, n>>4, n&15)
	}
	return spell(values, hexDigits)
}

// FromHex returns the bytes of digits in either case.
func FromHex(s string) ([]byte, api.Errno) {
	values, ok := places(s, hexDigits)
	if !ok || len(values)%2 != 0 {
		return nil, api.ErrForm
	}
	out := make([]byte, len(values)/2)
	for i := range out {
		out[i] = hexValue(values[2*i])<<4 | hexValue(values[2*i+1])
	}
	return out, api.OK
}

func hexValue(place byte) byte {
	if place > 15 {
		return place - 6
	}
	return place
}
