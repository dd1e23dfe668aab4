package wire

import (
	"slices"

	"strongbox/api"
)

// Reader reads bytes from their beginning on, until a read fails. The zero Reader has none.
type Reader struct {
	at  cursor
	err api.Errno
}

// Open returns a reader of a copy of these bytes.
func Open(b []byte) *Reader { return &Reader{at: cursor{rest: slices.Clone(b)}} }

// U8 reads one byte.
func (r *Reader) U8() byte { return read(r, (*cursor).u8) }

// U16 reads two bytes.
func (r *Reader) U16() uint16 { return read(r, (*cursor).u16) }

// U32 reads four bytes.
func (r *Reader) U32() uint32 { return read(r, (*cursor).u32) }

// U64 reads eight bytes.
func (r *Reader) U64() uint64 { return read(r, (*cursor).u64) }

// Raw reads n bytes, and none if n is negative.
func (r *Reader) Raw(n int) []byte {
	return read(r, func(c *cursor) []byte { return slices.Clone(c.take(max(n, 0))) })
}

// Size reads a compact size.
func (r *Reader) Size() uint64 { return read(r, (*cursor).size) }

// Bytes reads a compact size and that many bytes, but not more than most.
func (r *Reader) Bytes(most int) []byte {
	return read(r, func(c *cursor) []byte { return slices.Clone(c.list(most)) })
}

// Left returns the number of bytes behind what was read.
func (r *Reader) Left() int { return len(r.at.rest) }

// Err returns the first error.
func (r *Reader) Err() api.Errno { return r.err }

// Close returns the first error, or ErrForm if bytes remain.
func (r *Reader) Close() api.Errno {
	if r.err == api.OK && r.Left() > 0 {
		return api.ErrForm
	}
	return r.err
}

// fault is what a read that fails panics with.
type fault struct {
	err api.Errno
}

func fail(err api.Errno) { panic(fault{err}) }

// read takes one step, and goes back to where the reader was if the step fails.
func read[T any](r *Reader, step func(*cursor) T) (got T) {
	if r.err != api.OK {
		return got
	}
	start := r.at
	defer func() {
		if p := recover(); p != nil {
			f, ours := p.(fault)
			if !ours {
				panic(p)
			}
			r.at, r.err = start, f.err
		}
	}()
	return step(&r.at)
}

// cursor holds the bytes that were not read yet. Its methods panic with a fault.
type cursor struct {
	rest []byte
}

// take returns a part of rest, which must not leave the package.
func (c *cursor) take(n int) []byte {
	if n > len(c.rest) {
		fail(api.ErrEnd)
	}
	part := c.rest[:n]
	c.rest = c.rest[n:]
	return part
}

// number reads a number of so many bytes, at most eight.
func (c *cursor) number(width int) uint64 {
	n := uint64(0)
	for i, b := range c.take(width) {
		n |= uint64(b) << (8 * i)
	}
	return n
}

func (c *cursor) u8() byte    { return byte(c.number(1)) }
func (c *cursor) u16() uint16 { return uint16(c.number(2)) }
func (c *cursor) u32() uint32 { return uint32(c.number(4)) }
func (c *cursor) u64() uint64 { return c.number(8) }

func (c *cursor) size() uint64 {
	first := c.u8()
	if first < mark16 {
		return uint64(first)
	}
	width := marks()[first]
	n := c.number(width)
	if Length(n) != 1+width {
		fail(api.ErrForm)
	}
	if n > api.MaxSize {
		fail(api.ErrSize)
	}
	return n
}

func (c *cursor) list(most int) []byte {
	// A size is at most MaxSize, so that it fits into an int.
	n := int(c.size())
	if n > most {
		fail(api.ErrSize)
	}
	return c.take(n)
}
