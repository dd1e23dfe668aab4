package hdkey

import (
	"slices"

	"strongbox/api"
	"strongbox/text"
)

const (
	// What the bytes of a key begin with.
	privateMark = "\x04\x88\xad\xe4"
	publicMark  = "\x04\x88\xb2\x1e"

	keySize = 78
)

// Text returns the key as people see it.
func (k Key) Text() string {
	return text.Check58(slices.Concat(
		[]byte(k.mark()), []byte{k.Depth}, k.Finger[:], numberBytes(k.Child), k.Chain[:], k.Data[:]))
}

func (k Key) mark() string {
	if k.Private() {
		return privateMark
	}
	return publicMark
}

// Parse returns the key of which s is the Text.
func Parse(s string) (Key, api.Errno) {
	b, err := text.FromCheck58(s)
	if err != api.OK {
		return Key{}, err
	}
	if len(b) != keySize {
		return Key{}, api.ErrSize
	}
	k := Key{
		Depth:  b[4],
		Finger: [4]byte(b[5:9]),
		Child:  readNumber([4]byte(b[9:13])),
		Chain:  [32]byte(b[13:45]),
		Data:   [33]byte(b[45:]),
	}
	if string(b[:4]) != k.mark() || !k.isKey() || !k.isPlaced() {
		return Key{}, api.ErrForm
	}
	return k, api.OK
}

// isPlaced: if it is not a child, does it have neither a parent nor a number?
func (k Key) isPlaced() bool {
	return k.Depth > 0 || k.Finger == [4]byte{} && k.Child == 0
}

func readNumber(b [4]byte) uint32 {
	return uint32(b[0])<<24 | uint32(b[1])<<16 | uint32(b[2])<<8 | uint32(b[3])
}
