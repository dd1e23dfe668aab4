package hash

import "math/bits"

const block512 = 128

// sum512 returns the SHA-512 of the pieces, one behind the other.
func sum512(pieces ...[]byte) [64]byte {
	k := kind[[8]uint64]{block: block512, start: squareRoots, step: step512}
	var in intake[[8]uint64]
	for _, piece := range pieces {
		in.add(k, piece...)
	}
	in.add(k, padding(in.size, block512, 16)...)
	var out [64]byte
	for i, w := range in.words {
		put32(out[8*i:], uint32(w>>32))
		put32(out[8*i+4:], uint32(w))
	}
	return out
}

func step512(words [8]uint64, block []byte) [8]uint64 {
	w := schedule512(block)
	a, b, c, d, e, f, g, h := words[0], words[1], words[2], words[3], words[4], words[5], words[6], words[7]
	for t := range w {
		sum1 := bits.RotateLeft64(e, -14) ^ bits.RotateLeft64(e, -18) ^ bits.RotateLeft64(e, -41)
		t1 := h + sum1 + (e&f ^ ^e&g) + cubeRoots[t] + w[t]
		sum0 := bits.RotateLeft64(a, -28) ^ bits.RotateLeft64(a, -34) ^ bits.RotateLeft64(a, -39)
		t2 := sum0 + (a&b ^ a&c ^ b&c)
		h, g, f, e, d, c, b, a = g, f, e, d+t1, c, b, a, t1+t2
	}
	for i, n := range [8]uint64{a, b, c, d, e, f, g, h} {
		words[i] += n
	}
	return words
}

func schedule512(block []byte) [80]uint64 {
	var w [80]uint64
	for t := range 16 {
		w[t] = uint64(get32(block[8*t:]))<<32 | uint64(get32(block[8*t+4:]))
	}
	for t := 16; t < len(w); t++ {
		x, y := w[t-15], w[t-2]
		s0 := bits.RotateLeft64(x, -1) ^ bits.RotateLeft64(x, -8) ^ x>>7
		s1 := bits.RotateLeft64(y, -19) ^ bits.RotateLeft64(y, -61) ^ y>>6
		w[t] = s1 + w[t-7] + s0 + w[t-16]
	}
	return w
}
