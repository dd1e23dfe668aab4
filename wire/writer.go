package wire

import "slices"

// Writer collects what is written. The zero Writer has written nothing.
type Writer struct {
	out []byte
}

// U8 writes one byte.
func (w *Writer) U8(n byte) { w.Raw(n) }

// U16 writes two bytes.
func (w *Writer) U16(n uint16) { w.Raw(byte(n), byte(n>>8)) }

// U32 writes four bytes.
func (w *Writer) U32(n uint32) { w.Raw(byte(n), byte(n>>8), byte(n>>16), byte(n>>24)) }

// U64 writes eight bytes.
func (w *Writer) U64(n uint64) {
	w.U32(uint32(n))
	w.U32(uint32(n >> 32))
}

// Raw writes the bytes as they are.
func (w *Writer) Raw(b ...byte) { w.out = append(w.out, b...) }

// Size writes a compact size.
func (w *Writer) Size(n uint64) {
	switch Length(n) {
	case 1:
		w.U8(byte(n))
	case 3:
		w.U8(mark16)
		w.U16(uint16(n))
	case 5:
		w.U8(mark32)
		w.U32(uint32(n))
	default:
		w.U8(mark64)
		w.U64(n)
	}
}

// Bytes writes the compact size of a list, and the list.
func (w *Writer) Bytes(b []byte) {
	w.Size(uint64(len(b)))
	w.Raw(b...)
}

// Out returns a copy of everything that was written.
func (w *Writer) Out() []byte { return slices.Clone(w.out) }
