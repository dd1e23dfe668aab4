package curve

import "math/bits"

// number is a number below 2^256, the least significant word first.
type number [4]uint64

// read returns the number that the bytes encode, the most significant one first.
func read(b [32]byte) number {
	var a number
	for i, v := range b {
		a[3-i/8] = a[3-i/8]<<8 | uint64(v)
	}
	return a
}

func (a number) bytes() [32]byte {
	var b [32]byte
	for i := range b {
		b[i] = byte(a[3-i/8] >> (56 - 8*(i%8)))
	}
	return b
}

// digit returns one of the 64 digits of four bits, the least significant of which is digit 0.
func (a number) digit(i int) uint64 { return a[i/16] >> (4 * (i % 16)) & 15 }

func (a number) below(b number) bool {
	_, borrow := minus(a, b)
	return borrow == 1
}

// plus returns the sum modulo 2^256, and what is carried.
func plus(a, b number) (sum number, carry uint64) {
	for i := range sum {
		sum[i], carry = bits.Add64(a[i], b[i], carry)
	}
	return sum, carry
}

// minus returns the difference modulo 2^256, and what is borrowed.
func minus(a, b number) (rest number, borrow uint64) {
	for i := range rest {
		rest[i], borrow = bits.Sub64(a[i], b[i], borrow)
	}
	return rest, borrow
}

// times returns the product, the least significant word first.
func times(a, b number) (product [8]uint64) {
	for i := range a {
		over := uint64(0)
		for j := range b {
			over, product[i+j] = timesPlus(a[i], b[j], product[i+j], over)
		}
		product[i+4] = over
	}
	return product
}

// timesPlus returns a*b + c + d, which two words always hold.
func timesPlus(a, b, c, d uint64) (high, low uint64) {
	high, low = bits.Mul64(a, b)
	low, carry := bits.Add64(low, c, 0)
	high += carry
	low, carry = bits.Add64(low, d, 0)
	return high + carry, low
}

// plusModulo returns the sum of two numbers below m modulo m.
func plusModulo(a, b, m number) number {
	sum, carry := plus(a, b)
	rest, borrow := minus(sum, m)
	if carry < borrow {
		return sum
	}
	return rest
}

// minusModulo returns the difference of two numbers below m modulo m.
func minusModulo(a, b, m number) number {
	rest, borrow := minus(a, b)
	if borrow == 1 {
		rest, _ = plus(rest, m)
	}
	return rest
}

// modulo returns a modulo m, which is more than half of 2^256.
func modulo(a, m number) number {
	if rest, borrow := minus(a, m); borrow == 0 {
		return rest
	}
	return a
}

// power returns the product of as many times base as the exponent says.
func power[T any](base, one T, exponent number, times func(a, b T) T) T {
	powers := [16]T{one}
	for i := 1; i < len(powers); i++ {
		powers[i] = times(powers[i-1], base)
	}
	out := one
	for i := 63; i >= 0; i-- {
		for range 4 {
			out = times(out, out)
		}
		out = times(out, powers[exponent.digit(i)])
	}
	return out
}
