package curve

import "math/bits"

// prime is the p of the curve.
var prime = number{0xfffffffefffffc2f, 0xffffffffffffffff, 0xffffffffffffffff, 0xffffffffffffffff}

const (
	// beyondPrime is 2^256 minus prime, so that 2^256 counts as this modulo prime.
	beyondPrime = 1<<32 + 977
	// constant is what y^2 exceeds x^3 by.
	constant = 7
)

// element is a number modulo prime.
type element number

func (a element) plus(b element) element {
	return element(plusModulo(number(a), number(b), prime))
}

func (a element) minus(b element) element {
	return element(minusModulo(number(a), number(b), prime))
}

func (a element) times(b element) element {
	product := times(number(a), number(b))
	low, over := number(product[:4]), uint64(0)
	for i := range low {
		over, low[i] = timesPlus(product[i+4], beyondPrime, low[i], over)
	}
	for over > 0 {
		high, part := bits.Mul64(over, beyondPrime)
		low, over = plus(low, number{part, high})
	}
	return element(modulo(low, prime))
}

func (a element) square() element { return a.times(a) }

// inverse returns the element whose product with a is 1 (0 for 0).
func (a element) inverse() element {
	exponent, _ := minus(prime, number{2})
	return power(a, element{1}, exponent, element.times)
}

// root returns an element whose square is a, or false if there is none.
func (a element) root() (element, bool) {
	// A quarter of prime + 1: prime is 3 modulo 4.
	exponent := number{0xffffffffbfffff0c, 0xffffffffffffffff, 0xffffffffffffffff, 0x3fffffffffffffff}
	root := power(a, element{1}, exponent, element.times)
	return root, root.square() == a
}

func (a element) odd() bool { return a[0]&1 == 1 }
