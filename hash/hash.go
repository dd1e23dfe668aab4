// Package hash is layer 2: the digests by which everything is identified and checked. See shared/doc/02-hash.md.
package hash

import "strongbox/api"

// Sum256 returns the SHA-256 of b.
func Sum256(b []byte) api.Hash {
	var s Sum
	s.Add(b...)
	return s.Hash()
}

// Sum512 returns the SHA-512 of b.
func Sum512(b []byte) [64]byte { return sum512(b) }

// Double returns the SHA-256 of the SHA-256 of b.
func Double(b []byte) api.Hash {
	once := Sum256(b)
	return Sum256(once[:])
}

// Hash160 returns the RIPEMD-160 of the SHA-256 of b.
func Hash160(b []byte) [20]byte {
	once := Sum256(b)
	return Ripemd(once[:])
}

// Hmac512 returns the HMAC of b with SHA-512.
func Hmac512(key, b []byte) [64]byte {
	if len(key) > block512 {
		short := Sum512(key)
		key = short[:]
	}
	inner := hmacPad(key, 0x36)
	outer := hmacPad(key, 0x5c)
	digest := sum512(inner[:], b)
	return sum512(outer[:], digest[:])
}

// hmacPad returns the key, extended with zero bytes, each byte xored with mask.
func hmacPad(key []byte, mask byte) [block512]byte {
	var pad [block512]byte
	copy(pad[:], key)
	for i := range pad {
		pad[i] ^= mask
	}
	return pad
}
