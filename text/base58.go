package text

import (
	"bytes"
	"slices"

	"strongbox/api"
	"strongbox/hash"
)

const (
	digits58 = "123456789ABCDEFGHJKLMNPQRSTUVWXYZabcdefghijkmnopqrstuvwxyz"
	most58   = 250
	sumBytes = 4
)

// Base58 returns the bytes as a number in 58 digits, behind a digit 1 for each leading zero byte.
func Base58(b []byte) string { return spell(rebase(b, 256, 58), digits58) }

// FromBase58 returns the bytes of which s is the Base58.
func FromBase58(s string) ([]byte, api.Errno) {
	if len(s) > most58 {
		return nil, api.ErrSize
	}
	digits, ok := places(s, digits58)
	if !ok {
		return nil, api.ErrForm
	}
	return rebase(digits, 58, 256), api.OK
}

// Check58 returns the Base58 of the bytes and their checksum.
func Check58(b []byte) string { return Base58(slices.Concat(b, sum58(b))) }

// FromCheck58 returns the bytes of which s is the Check58.
func FromCheck58(s string) ([]byte, api.Errno) {
	all, err := FromBase58(s)
	if err != api.OK {
		return nil, err
	}
	if len(all) < sumBytes {
		return nil, api.ErrEnd
	}
	end := len(all) - sumBytes
	if !bytes.Equal(all[end:], sum58(all[:end])) {
		return nil, api.ErrSum
	}
	return all[:end:end], api.OK
}

func sum58(b []byte) []byte {
	digest := hash.Double(b)
	return digest[:sumBytes]
}

// rebase returns the same number in digits of another base, behind as many zeros as lead here. The most significant digit is the first one.
func rebase(digits []byte, from, to int) []byte {
	zeros := leadingZeros(digits)
	out := make([]byte, zeros)
	for _, d := range slices.Backward(ascending(digits[zeros:], from, to)) {
		out = append(out, d)
	}
	return out
}

// ascending returns the same number in digits of another base, the least significant one first, without zeros at the end.
func ascending(digits []byte, from, to int) []byte {
	var out []byte
	for _, d := range digits {
		carry := int(d)
		for i, low := range out {
			carry += int(low) * from
			out[i] = byte(carry % to)
			carry /= to
		}
		for ; carry > 0; carry /= to {
			out = append(out, byte(carry%to))
		}
	}
	return out
}

func leadingZeros(digits []byte) int {
	for i, d := range digits {
		if d != 0 {
			return i
		}
	}
	return len(digits)
}
