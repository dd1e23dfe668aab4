// Package unpack reads what consists of parts and lists of parts, and abandons that at the first part that can't be read. The packages that decode share it.
package unpack

import (
	"strongbox/api"
	"strongbox/wire"
)

// Reader reads parts. Those of its own methods that can't go on panic; Whole recovers that.
type Reader struct {
	*wire.Reader
}

// fault is what a reading that is abandoned panics with.
type fault struct {
	err api.Errno
}

// Fail abandons the reading.
func Fail(err api.Errno) { panic(fault{err}) }

// Whole returns what read makes of all bytes of b, or the error at which that was abandoned.
func Whole[T any](b []byte, read func(r Reader) T) (got T, err api.Errno) {
	defer func() {
		switch p := recover().(type) {
		case nil:
		case fault:
			var none T
			got, err = none, p.err
		default:
			panic(p)
		}
	}()
	r := Reader{wire.Open(b)}
	got = read(r)
	insist(r.Close())
	return got, api.OK
}

// Sure abandons the reading if something could not be read.
func (r Reader) Sure() { insist(r.Err()) }

// Count reads the number of elements of a list, which is at most most.
func (r Reader) Count(most int) int {
	// A size is at most MaxSize, so that it fits into an int.
	n := int(r.Size())
	r.Sure()
	if n > most {
		Fail(api.ErrSize)
	}
	return n
}

// List reads n elements, each of them by one.
func List[T any](r Reader, n int, one func() T) []T {
	var all []T
	for range n {
		all = append(all, one())
		r.Sure()
	}
	return all
}

func insist(err api.Errno) {
	if err != api.OK {
		Fail(err)
	}
}
