package hash

import (
	"math/bits"
	"slices"
)

const blockRipemd = 64

// Ripemd returns the RIPEMD-160 of b.
func Ripemd(b []byte) [20]byte {
	k := kind[[5]uint32]{
		block: blockRipemd,
		start: [5]uint32{0x67452301, 0xefcdab89, 0x98badcfe, 0x10325476, 0xc3d2e1f0},
		step:  stepRipemd,
	}
	var in intake[[5]uint32]
	in.add(k, b...)
	end := padding(in.size, blockRipemd, 8)
	slices.Reverse(end[len(end)-8:])
	in.add(k, end...)
	var out [20]byte
	for i, w := range in.words {
		put32(out[4*i:], bits.ReverseBytes32(w))
	}
	return out
}

func stepRipemd(words [5]uint32, block []byte) [5]uint32 {
	var x [16]uint32
	for i := range x {
		x[i] = bits.ReverseBytes32(get32(block[4*i:]))
	}
	left := leftLine(words, x)
	right := rightLine(words, x)
	var out [5]uint32
	for i := range out {
		out[i] = words[(i+1)%5] + left[(i+2)%5] + right[(i+3)%5]
	}
	return out
}

func leftLine(words [5]uint32, x [16]uint32) [5]uint32 {
	adds := [5]uint32{0, 0x5a827999, 0x6ed9eba1, 0x8f1bbcdc, 0xa953fd4e}
	a, b, c, d, e := words[0], words[1], words[2], words[3], words[4]
	for t := range leftOrder {
		n := a + mix(t/16, b, c, d) + x[leftOrder[t]] + adds[t/16]
		n = bits.RotateLeft32(n, int(leftTurns[t])) + e
		a, e, d, c, b = e, d, bits.RotateLeft32(c, 10), b, n
	}
	return [5]uint32{a, b, c, d, e}
}

// rightLine mixes round by round in the reverse order.
func rightLine(words [5]uint32, x [16]uint32) [5]uint32 {
	adds := [5]uint32{0x50a28be6, 0x5c4dd124, 0x6d703ef3, 0x7a6d76e9, 0}
	a, b, c, d, e := words[0], words[1], words[2], words[3], words[4]
	for t := range rightOrder {
		n := a + mix(4-t/16, b, c, d) + x[rightOrder[t]] + adds[t/16]
		n = bits.RotateLeft32(n, int(rightTurns[t])) + e
		a, e, d, c, b = e, d, bits.RotateLeft32(c, 10), b, n
	}
	return [5]uint32{a, b, c, d, e}
}

// mix returns what one of the five rounds makes of three words.
func mix(round int, b, c, d uint32) uint32 {
	switch round {
	case 0:
		return b ^ c ^ d
	case 1:
		return b&c | ^b&d
	case 2:
		return (b | ^c) ^ d
	case 3:
		return b&d | c&^d
	default:
		return b ^ (c | ^d)
	}
}

// leftOrder: which word each step of the left line takes.
var leftOrder = [80]uint8{
	0, 1, 2, 3, 4, 5, 6, 7, 8, 9, 10, 11, 12, 13, 14, 15,
	7, 4, 13, 1, 10, 6, 15, 3, 12, 0, 9, 5, 2, 14, 11, 8,
	3, 10, 14, 4, 9, 15, 8, 1, 2, 7, 0, 6, 13, 11, 5, 12,
	1, 9, 11, 10, 0, 8, 12, 4, 13, 3, 7, 15, 14, 5, 6, 2,
	4, 0, 5, 9, 7, 12, 2, 10, 14, 1, 3, 8, 11, 6, 15, 13,
}

// rightOrder: which word each step of the right line takes.
var rightOrder = [80]uint8{
	5, 14, 7, 0, 9, 2, 11, 4, 13, 6, 15, 8, 1, 10, 3, 12,
	6, 11, 3, 7, 0, 13, 5, 10, 14, 15, 8, 12, 4, 9, 1, 2,
	15, 5, 1, 3, 7, 14, 6, 9, 11, 8, 12, 2, 10, 0, 4, 13,
	8, 6, 4, 1, 3, 11, 15, 0, 5, 12, 2, 13, 9, 7, 10, 14,
	12, 15, 10, 4, 1, 5, 8, 7, 6, 2, 13, 14, 0, 3, 9, 11,
}

// leftTurns: how far each step of the left line rotates.
var leftTurns = [80]uint8{
	11, 14, 15, 12, 5, 8, 7, 9, 11, 13, 14, 15, 6, 7, 9, 8,
	7, 6, 8, 13, 11, 9, 7, 15, 7, 12, 15, 9, 11, 7, 13, 12,
	11, 13, 6, 7, 14, 9, 13, 15, 14, 8, 13, 6, 5, 12, 7, 5,
	11, 12, 14, 15, 14, 15, 9, 8, 9, 14, 5, 6, 8, 6, 5, 12,
	9, 15, 5, 11, 6, 8, 13, 12, 5, 12, 13, 14, 11, 8, 5, 6,
}

// rightTurns: how far each step of the right line rotates.
var rightTurns = [80]uint8{
	8, 9, 9, 11, 13, 15, 15, 5, 7, 7, 8, 11, 14, 14, 12, 6,
	9, 13, 15, 7, 12, 8, 9, 11, 7, 7, 12, 7, 6, 15, 13, 11,
	9, 7, 15, 11, 8, 6, 6, 14, 12, 13, 5, 14, 13, 13, 7, 5,
	15, 5, 8, 11, 14, 14, 6, 14, 6, 9, 12, 9, 12, 5, 15, 8,
	8, 5, 12, 9, 12, 5, 14, 6, 8, 13, 6, 5, 15, 13, 11, 11,
}
