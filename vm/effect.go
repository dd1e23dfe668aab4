package vm

import (
	"bytes"
	"slices"

	"strongbox/api"
	"strongbox/script"
)

func (m *machine) nothing() {}

func (m *machine) pushData() { m.push(m.data) }

// constant pushes a number.
func constant(n int64) effect {
	return func(m *machine) { m.pushNumber(n) }
}

// guides: does a code say what is executed? Such a one takes effect where nothing is executed, too.
func guides(code byte) bool { return 0x63 <= code && code <= 0x68 }

// executes: are operations executed?
func (m *machine) executes() bool { return !slices.Contains(m.branches, false) }

// begin begins a branch that is executed if the truth of the top is this.
func begin(truth bool) effect {
	return func(m *machine) {
		m.branches = append(m.branches, m.executes() && script.Truth(m.pop()) == truth)
	}
}

// otherwise executes what follows if what precedes was not. Within a branch that isn't executed that makes no difference.
func (m *machine) otherwise() {
	last := len(m.branches) - 1
	insist(last >= 0)
	m.branches[last] = !m.branches[last]
}

func (m *machine) end() {
	last := len(m.branches) - 1
	insist(last >= 0)
	m.branches = m.branches[:last]
}

func (m *machine) verify() { insist(script.Truth(m.pop())) }

// verified does something that pushes a truth value, which must be true.
func verified(do effect) effect {
	return func(m *machine) {
		do(m)
		m.verify()
	}
}

func (m *machine) put() { m.other.push(m.pop()) }

func (m *machine) fetch() { m.push(m.other.pop()) }

// arranged pops n items, and pushes those of them that stood at these places, 0 being the lowest one.
func arranged(n int, places ...int) effect {
	return func(m *machine) {
		taken := m.take(n)
		for _, i := range places {
			m.push(taken[i])
		}
	}
}

func (m *machine) againIfTrue() {
	if top := m.top(); script.Truth(top) {
		m.push(top)
	}
}

func (m *machine) depth() { m.pushNumber(int64(len(m.stack))) }

func (m *machine) pick() {
	i := m.place()
	m.push(m.stack[i])
}

func (m *machine) roll() {
	i := m.place()
	item := m.stack[i]
	m.stack = slices.Delete(m.stack, i, i+1)
	m.push(item)
}

func (m *machine) size() { m.pushNumber(int64(len(m.top()))) }

func (m *machine) equal() { m.pushTruth(bytes.Equal(m.pop(), m.pop())) }

// shortNumber and longNumber are how many bytes a number has at most, and how many one that is held against a lock.
const shortNumber, longNumber = 4, 5

// numberOf returns the number that an item is.
func numberOf(item []byte, most int) int64 {
	n, err := script.FromNumber(item, most)
	insist(err == api.OK)
	return n
}

// unary makes a number of the top.
func unary(of func(x int64) int64) effect {
	return func(m *machine) { m.pushNumber(of(m.number())) }
}

// binary makes a number of the top two, of which b is the top.
func binary(of func(a, b int64) int64) effect {
	return func(m *machine) {
		b := m.number()
		a := m.number()
		m.pushNumber(of(a, b))
	}
}

// relation pushes whether the top two numbers are so.
func relation(holds func(a, b int64) bool) effect {
	return binary(func(a, b int64) int64 { return oneIf(holds(a, b)) })
}

func (m *machine) within() {
	c := m.number()
	b := m.number()
	a := m.number()
	m.pushTruth(b <= a && a < c)
}

// digested makes a digest of the top.
func digested(of func(b []byte) []byte) effect {
	return func(m *machine) { m.push(of(m.pop())) }
}
