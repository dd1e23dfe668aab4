package script

import (
	"bytes"
	"math"
	"slices"

	"strongbox/api"
)

const (
	// sign is the bit of the last byte that makes a number negative.
	sign = 0x80
	// maxNumber is how many bytes a number has at most.
	maxNumber = 8
	// maxSmall is the greatest number that a code pushes on its own.
	maxSmall = 16
)

// Number returns a number as bytes.
func Number(n int64) []byte {
	var b []byte
	for rest := absolute(n); rest > 0; rest >>= 8 {
		b = append(b, byte(rest))
	}
	last := len(b) - 1
	if last >= 0 && b[last]&sign != 0 {
		b = append(b, 0)
		last++
	}
	if n < 0 {
		b[last] |= sign
	}
	return b
}

// absolute returns the absolute value of a number, where the least one, which has none, counts as the next greater one.
func absolute(n int64) int64 {
	if n < 0 {
		return -max(n, -math.MaxInt64)
	}
	return n
}

// FromNumber returns the number that Number has written in at most so many bytes.
func FromNumber(b []byte, most int) (int64, api.Errno) {
	if len(b) > min(most, maxNumber) {
		return 0, api.ErrSize
	}
	n := value(b)
	if !bytes.Equal(Number(n), b) {
		return 0, api.ErrForm
	}
	return n, api.OK
}

// value returns the number that at most eight bytes say, as short as can be or not.
func value(b []byte) int64 {
	if len(b) == 0 {
		return 0
	}
	last := len(b) - 1
	n := int64(b[last] &^ sign)
	for _, low := range slices.Backward(b[:last]) {
		n = n<<8 | int64(low)
	}
	if b[last]&sign != 0 {
		return -n
	}
	return n
}

// Truth: does an item have a byte other than 0? A sign alone is none.
func Truth(b []byte) bool {
	if last := len(b) - 1; last >= 0 && b[last] == sign {
		b = b[:last]
	}
	return slices.ContainsFunc(b, func(x byte) bool { return x != 0 })
}
