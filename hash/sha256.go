package hash

import (
	"math/bits"

	"strongbox/api"
)

// Sum is the SHA-256 of what is added piece by piece. The zero Sum is empty.
type Sum struct {
	in intake[[8]uint32]
}

// Add takes more bytes.
func (s *Sum) Add(b ...byte) { s.in.add(kind256(), b...) }

// Hash returns the digest of everything added so far.
func (s *Sum) Hash() api.Hash {
	// More may be added to s, so that a copy is closed.
	end := s.in
	end.add(kind256(), padding(end.size, block256, 8)...)
	var out api.Hash
	for i, w := range end.words {
		put32(out[4*i:], w)
	}
	return out
}

// Twice returns the digest of Hash.
func (s *Sum) Twice() api.Hash {
	once := s.Hash()
	return Sum256(once[:])
}

const block256 = 64

func kind256() kind[[8]uint32] {
	k := kind[[8]uint32]{block: block256, step: step256}
	for i, root := range squareRoots {
		k.start[i] = uint32(root >> 32)
	}
	return k
}

func step256(words [8]uint32, block []byte) [8]uint32 {
	w := schedule256(block)
	a, b, c, d, e, f, g, h := words[0], words[1], words[2], words[3], words[4], words[5], words[6], words[7]
	for t := range w {
		sum1 := bits.RotateLeft32(e, -6) ^ bits.RotateLeft32(e, -11) ^ bits.RotateLeft32(e, -25)
		t1 := h + sum1 + (e&f ^ ^e&g) + uint32(cubeRoots[t]>>32) + w[t]
		sum0 := bits.RotateLeft32(a, -2) ^ bits.RotateLeft32(a, -13) ^ bits.RotateLeft32(a, -22)
		t2 := sum0 + (a&b ^ a&c ^ b&c)
		h, g, f, e, d, c, b, a = g, f, e, d+t1, c, b, a, t1+t2
	}
	for i, n := range [8]uint32{a, b, c, d, e, f, g, h} {
		words[i] += n
	}
	return words
}

func schedule256(block []byte) [64]uint32 {
	var w [64]uint32
	for t := range 16 {
		w[t] = get32(block[4*t:])
	}
	for t := 16; t < len(w); t++ {
		x, y := w[t-15], w[t-2]
		s0 := bits.RotateLeft32(x, -7) ^ bits.RotateLeft32(x, -18) ^ x>>3
		s1 := bits.RotateLeft32(y, -17) ^ bits.RotateLeft32(y, -19) ^ y>>10
		w[t] = s1 + w[t-7] + s0 + w[t-16]
	}
	return w
}

// get32 reads a word, the most significant byte first.
func get32(b []byte) uint32 {
	return uint32(b[0])<<24 | uint32(b[1])<<16 | uint32(b[2])<<8 | uint32(b[3])
}

// put32 writes a word, the most significant byte first.
func put32(b []byte, w uint32) {
	b[0], b[1], b[2], b[3] = byte(w>>24), byte(w>>16), byte(w>>8), byte(w)
}
