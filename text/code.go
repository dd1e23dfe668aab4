package text

// letters32: the letters of the values of five bits.
const letters32 = "qpzry9x8gf2tvdw0s3jn54khce6mua7l"

// code is how a checksum takes values in: it has five bits above the lower ones, and each of the five stands for a number that is xored.
type code struct {
	lower int
	xors  [5]uint64
}

// step takes values of five bits into the checksum c.
func (k code) step(c uint64, values ...byte) uint64 {
	for _, v := range values {
		upper := c >> k.lower
		c = c&(1<<k.lower-1)<<5 ^ uint64(v)
		for i, x := range k.xors {
			if upper>>i&1 == 1 {
				c ^= x
			}
		}
	}
	return c
}

// fives returns n values of five bits, the most significant first.
func fives(c uint64, n int) []byte {
	out := make([]byte, n)
	for i := range out {
		out[i] = byte(c >> (5 * (n - 1 - i)) & 31)
	}
	return out
}
