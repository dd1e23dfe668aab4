package vm

import (
	"bytes"
	"slices"

	"strongbox/script"
)

// stack has its top at the end. Items are never written to, so that one can stand at several places.
type stack [][]byte

func (s *stack) push(items ...[]byte) { *s = append(*s, items...) }

// pushNumber pushes a number as an item.
func (s *stack) pushNumber(n int64) { s.push(script.Number(n)) }

func (s *stack) pushTruth(holds bool) { s.pushNumber(oneIf(holds)) }

func oneIf(holds bool) int64 {
	if holds {
		return 1
	}
	return 0
}

// take pops n items, and returns them as they stood.
func (s *stack) take(n int) [][]byte {
	rest := len(*s) - n
	insist(rest >= 0)
	// What is pushed next overwrites the place where they stood.
	taken := slices.Clone((*s)[rest:])
	*s = (*s)[:rest]
	return taken
}

func (s *stack) pop() []byte { return s.take(1)[0] }

// number pops an item that is a number.
func (s *stack) number() int64 { return numberOf(s.pop(), shortNumber) }

func (s *stack) top() []byte {
	insist(len(*s) > 0)
	return (*s)[len(*s)-1]
}

// place pops a number, and returns the place of the item so far below the top.
func (s *stack) place() int {
	n := s.number()
	insist(0 <= n && n < int64(len(*s)))
	return len(*s) - 1 - int(n)
}

// copied returns a copy of all items.
func (s stack) copied() [][]byte {
	var all [][]byte
	for _, item := range s {
		all = append(all, bytes.Clone(item))
	}
	return all
}
