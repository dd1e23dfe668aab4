package block

import (
	"bytes"
	"math"
	"slices"

	"strongbox/api"
)

const (
	// sign is the bit of m that must not be set: other programs take it for a minus.
	sign = 1 << 23
	// period is how many seconds there should be between the changes of the target.
	period = api.Spacing * api.Retarget
	// Next changes the target at most by this factor.
	maxFactor = 4
)

// Number is a number, the most significant byte first.
type Number [32]byte

// one returns the number 1.
func one() Number { return Number{31: 1} }

// greatest returns the greatest number.
func greatest() Number { return Number(bytes.Repeat([]byte{math.MaxUint8}, 32)) }

// Target returns the greatest number that the Id of a header with these bits may be.
func Target(bits uint32) (Number, api.Errno) {
	n := expand(bits)
	if bits&sign != 0 || n == (Number{}) || Compare(n, limit()) > 0 {
		return Number{}, api.ErrForm
	}
	return n, api.OK
}

// limit returns the greatest target.
func limit() Number { return expand(api.PowLimit) }

// expand returns the number that bits stand for, or 0, which is no target either, if it has more than 32 bytes.
func expand(bits uint32) (n Number) {
	start := len(n) - int(bits>>24)
	for i := range 3 {
		digit := byte(bits >> (16 - 8*i))
		switch at := start + i; {
		case at < 0 && digit > 0:
			return Number{}
		case at >= 0 && at < len(n):
			n[at] = digit
		}
	}
	return n
}

// Bits returns the bits that stand for a number, as far as three bytes can.
func Bits(n Number) uint32 {
	digits := bytes.TrimLeft(n[:], "\x00")
	size := uint32(len(digits))
	var first [3]byte
	copy(first[:], digits)
	m := uint32(first[0])<<16 | uint32(first[1])<<8 | uint32(first[2])
	if m >= sign {
		m >>= 8
		size++
	}
	return size<<24 | m
}

// Work returns how many Ids must be tried, on average, for one that is at most the target.
func Work(bits uint32) Number {
	target, err := Target(bits)
	if err != api.OK {
		return Number{}
	}
	return invert(Add(target, one()))
}

// invert returns 2^256 divided by d, which is 2 to 2^255, bit by bit.
func invert(d Number) Number {
	quotient, rest := Number{}, one()
	for range 8 * len(d) {
		quotient, rest = Add(quotient, quotient), Add(rest, rest)
		if Compare(rest, d) >= 0 {
			quotient, rest = Add(quotient, one()), subtract(rest, d)
		}
	}
	return quotient
}

// Add returns the sum, or the greatest number if the sum is greater.
func Add(a, b Number) Number {
	carry := 0
	for i := range slices.Backward(a[:]) {
		carry += int(a[i]) + int(b[i])
		a[i] = byte(carry)
		carry >>= 8
	}
	if carry > 0 {
		return greatest()
	}
	return a
}

// subtract returns a - b, where b is at most a.
func subtract(a, b Number) Number {
	carry := 0
	for i := range slices.Backward(a[:]) {
		carry += int(a[i]) - int(b[i])
		a[i] = byte(carry)
		carry >>= 8
	}
	return a
}

// Compare returns -1, 0 or 1, as a is less than b, equal or greater.
func Compare(a, b Number) int { return bytes.Compare(a[:], b[:]) }

// Proved: is the Id of a header as small as its Bits ask for?
func Proved(h api.Header) bool {
	target, err := Target(h.Bits)
	id := Id(h)
	slices.Reverse(id[:])
	return err == api.OK && Compare(Number(id), target) <= 0
}

// Next returns the bits of blocks that follow those which took span seconds.
func Next(bits uint32, span int64) uint32 {
	target, err := Target(bits)
	if err != api.OK {
		return api.PowLimit
	}
	span = min(max(span, period/maxFactor), period*maxFactor)
	target = scale(target, uint32(span), period)
	switch {
	case target == Number{}:
		target = one()
	case Compare(target, limit()) > 0:
		target = limit()
	}
	return Bits(target)
}

// scale returns n times mul, divided by div, or the greatest number if that is greater. Both factors are below 2^16.
func scale(n Number, mul, div uint32) Number {
	carry := uint32(0)
	for i := range slices.Backward(n[:]) {
		carry += uint32(n[i]) * mul
		n[i] = byte(carry)
		carry >>= 8
	}
	if carry >= div {
		return greatest()
	}
	// The carry is the part of the product beyond 32 bytes: the division begins with it.
	for i := range n {
		carry = carry<<8 | uint32(n[i])
		n[i] = byte(carry / div)
		carry %= div
	}
	return n
}
