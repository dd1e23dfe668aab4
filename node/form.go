package node

import (
	"strongbox/api"
	"strongbox/unpack"
	"strongbox/wire"
)

// form is what goes through the fields of an operation, and either writes or reads them. Each method is passed a field, and returns what that is then.
type form interface {
	word(n uint64) uint64
	raw(b []byte) []byte            // always so many bytes
	part(b []byte, most int) []byte // any bytes, but at most that many
	count(n, most int) int          // of the elements of a list
}

// number processes a field that is a number.
func number[T int | int64 | uint32 | uint64](f form, n T) T {
	word := f.word(uint64(n))
	n = T(word)
	if uint64(n) != word {
		unpack.Fail(api.ErrForm)
	}
	return n
}

// truth processes a field that holds or not.
func truth(f form, holds bool) bool {
	var b [1]byte
	if holds {
		b[0] = 1
	}
	got := f.raw(b[:])[0]
	if got > 1 {
		unpack.Fail(api.ErrForm)
	}
	return got == 1
}

// list processes a list, each element by one.
func list[T any](f form, old []T, most int, one func(T) T) []T {
	var all []T
	for i := range f.count(len(old), most) {
		var x T
		if i < len(old) {
			x = old[i]
		}
		all = append(all, one(x))
	}
	return all
}

// writer is the form that writes. It notes whether something was more than it may be.
type writer struct {
	wire.Writer
	over bool
}

func (w *writer) word(n uint64) uint64 {
	w.U64(n)
	return n
}

func (w *writer) raw(b []byte) []byte {
	w.Raw(b...)
	return b
}

func (w *writer) part(b []byte, most int) []byte {
	if len(b) > most {
		w.over = true
	} else {
		w.Bytes(b)
	}
	return b
}

func (w *writer) count(n, most int) int {
	if n > most {
		w.over = true
		return 0
	}
	w.Size(uint64(n))
	return n
}

// reader is the form that reads. What can't be read abandons the reading.
type reader struct {
	unpack.Reader
}

func (r reader) word(uint64) uint64 {
	n := r.U64()
	r.Sure()
	return n
}

func (r reader) raw(b []byte) []byte {
	b = r.Raw(len(b))
	r.Sure()
	return b
}

func (r reader) part(_ []byte, most int) []byte {
	b := r.Bytes(most)
	r.Sure()
	return b
}

func (r reader) count(_, most int) int { return r.Count(most) }
