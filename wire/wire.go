// Package wire is layer 1: it encodes and decodes numbers and bytes of messages, the least significant byte first. See shared/doc/01-wire.md.
package wire

// The bytes that begin a compact size of two, four and eight more bytes.
const (
	mark16 = 253
	mark32 = 254
	mark64 = 255
)

// marks returns how many bytes follow each byte that begins a longer compact size.
func marks() map[byte]int {
	return map[byte]int{mark16: 2, mark32: 4, mark64: 8}
}

// Length returns the number of bytes of the compact size of n.
func Length(n uint64) int {
	switch {
	case n < mark16:
		return 1
	case n < 1<<16:
		return 3
	case n < 1<<32:
		return 5
	default:
		return 9
	}
}
