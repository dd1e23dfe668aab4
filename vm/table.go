package vm

import (
	"slices"

	"strongbox/hash"
	"strongbox/script"
)

// effect is what an operation does.
type effect func(m *machine)

// entry is a code with its effect.
type entry struct {
	code byte
	do   effect
}

// effects returns the effect of each code. Those without one fail.
func effects() [256]effect {
	var table [256]effect
	for code := script.False; code <= script.Push4; code++ {
		table[code] = (*machine).pushData
	}
	table[script.Minus] = constant(-1)
	for code := script.One; code <= script.Sixteen; code++ {
		table[code] = constant(int64(code - script.One + 1))
	}
	for _, e := range slices.Concat(guidance(), moves(), comparisons(), sums(), relations(), digests(), checks()) {
		table[e.code] = e.do
	}
	return table
}

// guidance: what says which operations are executed, and whether the run goes on at all.
func guidance() []entry {
	return []entry{
		{0x61, (*machine).nothing},
		{0x63, begin(true)},
		{0x64, begin(false)},
		{0x67, (*machine).otherwise},
		{0x68, (*machine).end},
		{0x69, (*machine).verify},
	}
}

// moves: what moves items, copies them and throws them away.
func moves() []entry {
	return []entry{
		{0x6b, (*machine).put},
		{0x6c, (*machine).fetch},
		{0x6d, arranged(2)},
		{0x6e, arranged(2, 0, 1, 0, 1)},
		{0x6f, arranged(3, 0, 1, 2, 0, 1, 2)},
		{0x70, arranged(4, 0, 1, 2, 3, 0, 1)},
		{0x71, arranged(6, 2, 3, 4, 5, 0, 1)},
		{0x72, arranged(4, 2, 3, 0, 1)},
		{0x73, (*machine).againIfTrue},
		{0x74, (*machine).depth},
		{0x75, arranged(1)},
		{0x76, arranged(1, 0, 0)},
		{0x77, arranged(2, 1)},
		{0x78, arranged(2, 0, 1, 0)},
		{0x79, (*machine).pick},
		{0x7a, (*machine).roll},
		{0x7b, arranged(3, 1, 2, 0)},
		{0x7c, arranged(2, 1, 0)},
		{0x7d, arranged(2, 1, 0, 1)},
	}
}

// comparisons: what looks at items as they are.
func comparisons() []entry {
	return []entry{
		{0x82, (*machine).size},
		{0x87, (*machine).equal},
		{0x88, verified((*machine).equal)},
	}
}

// sums: what makes a number of numbers.
func sums() []entry {
	return []entry{
		{0x8b, unary(func(x int64) int64 { return x + 1 })},
		{0x8c, unary(func(x int64) int64 { return x - 1 })},
		{0x8f, unary(func(x int64) int64 { return -x })},
		{0x90, unary(func(x int64) int64 { return max(x, -x) })},
		{0x91, unary(func(x int64) int64 { return oneIf(x == 0) })},
		{0x92, unary(func(x int64) int64 { return oneIf(x != 0) })},
		{0x93, binary(func(a, b int64) int64 { return a + b })},
		{0x94, binary(func(a, b int64) int64 { return a - b })},
		{0xa3, binary(func(a, b int64) int64 { return min(a, b) })},
		{0xa4, binary(func(a, b int64) int64 { return max(a, b) })},
	}
}

// relations: what pushes whether numbers are so.
func relations() []entry {
	return []entry{
		{0x9a, relation(func(a, b int64) bool { return a != 0 && b != 0 })},
		{0x9b, relation(func(a, b int64) bool { return a != 0 || b != 0 })},
		{0x9c, relation(func(a, b int64) bool { return a == b })},
		{0x9d, verified(relation(func(a, b int64) bool { return a == b }))},
		{0x9e, relation(func(a, b int64) bool { return a != b })},
		{0x9f, relation(func(a, b int64) bool { return a < b })},
		{0xa0, relation(func(a, b int64) bool { return a > b })},
		{0xa1, relation(func(a, b int64) bool { return a <= b })},
		{0xa2, relation(func(a, b int64) bool { return a >= b })},
		{0xa5, (*machine).within},
	}
}

// digests: what makes a digest of an item.
func digests() []entry {
	return []entry{
		{0xa6, digested(func(b []byte) []byte { h := hash.Ripemd(b); return h[:] })},
		{0xa8, digested(func(b []byte) []byte { h := hash.Sum256(b); return h[:] })},
		{0xa9, digested(func(b []byte) []byte { h := hash.Hash160(b); return h[:] })},
		{0xaa, digested(func(b []byte) []byte { h := hash.Double(b); return h[:] })},
	}
}

// checks: signatures, locks, and what stands among them without an effect.
func checks() []entry {
	return []entry{
		{0xac, (*machine).checkOne},
		{0xad, verified((*machine).checkOne)},
		{0xae, (*machine).checkMany},
		{0xaf, verified((*machine).checkMany)},
		{0xb0, (*machine).nothing},
		{0xb1, (*machine).lockTime},
		{0xb2, (*machine).lockAge},
		{0xb3, (*machine).nothing},
		{0xb4, (*machine).nothing},
		{0xb5, (*machine).nothing},
		{0xb6, (*machine).nothing},
		{0xb7, (*machine).nothing},
		{0xb8, (*machine).nothing},
		{0xb9, (*machine).nothing},
	}
}
