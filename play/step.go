package play

import (
	"strongbox/api"
	"strongbox/wire"
)

// The codes of steps.
const (
	mine = iota
	accept
	enter
	describe
	take
	send
	bump
	abandon
	rescan
	lock
	label
	compact
	crash
	arm
	none
	fork
	codes // so many there are
)

// mostData is how many bytes of Data a step has at most.
const mostData = 2000

// Step is one step of a script. Fields that its Code does not have are 0, or empty.
type Step struct {
	Code, A, B, C int
	Data          []byte
}

// shape is what a step has behind its Code: so many bytes of A, B and C, and perhaps Data.
type shape struct {
	a, b, c int
	data    bool
}

var shapes = [codes]shape{
	mine:     {a: 1},
	accept:   {data: true},
	enter:    {data: true},
	describe: {a: 1},
	take:     {a: 1},
	send:     {a: 4, b: 2, c: 1},
	bump:     {a: 1, b: 2},
	abandon:  {a: 1},
	rescan:   {a: 1},
	lock:     {a: 1},
	label:    {a: 1, data: true},
	crash:    {a: 1, b: 1},
	arm:      {a: 1},
	fork:     {a: 1},
}

// Steps returns the steps of a script, up to the first one that is not whole.
func Steps(script []byte) []Step {
	var list []Step
	for r := wire.Open(script); r.Left() > 0; {
		s := read(r)
		if r.Err() != api.OK {
			break
		}
		list = append(list, s)
	}
	return list
}

// read reads a step. What it returns counts only if the reader has no error then.
func read(r *wire.Reader) Step {
	s := Step{Code: int(r.U8()) % codes}
	x := shapes[s.Code]
	s.A, s.B, s.C = number(r, x.a), number(r, x.b), number(r, x.c)
	if x.data {
		s.Data = r.Bytes(mostData)
	}
	return s
}

// number reads a number of so many bytes.
func number(r *wire.Reader, width int) int {
	n := 0
	for i, b := range r.Raw(width) {
		n |= int(b) << (8 * i)
	}
	return n
}

// Bytes returns a step as bytes.
func (s Step) Bytes() []byte {
	code := absolute(s.Code) % codes
	x := shapes[code]
	var w wire.Writer
	w.U8(byte(code))
	w.Raw(digits(s.A, x.a)...)
	w.Raw(digits(s.B, x.b)...)
	w.Raw(digits(s.C, x.c)...)
	if x.data {
		w.Bytes(s.Data[:min(len(s.Data), mostData)])
	}
	return w.Out()
}

// digits returns the last bytes of the absolute value of a number, the least significant one first.
func digits(n, width int) []byte {
	rest := absolute(n)
	var list []byte
	for range width {
		list = append(list, byte(rest))
		rest >>= 8
	}
	return list
}

// absolute returns the absolute value of a number. That of the least one has only zeros in the bytes that a step has.
func absolute(n int) uint {
	if n < 0 {
		n = -n
	}
	return uint(n)
}
