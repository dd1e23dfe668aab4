package curve

// order is the n of the curve.
var order = number{0xbfd25e8cd0364141, 0xbaaedce6af48a03b, 0xfffffffffffffffe, 0xffffffffffffffff}

// beyondOrder is 2^256 minus order, so that 2^256 counts as this modulo order.
var beyondOrder = number{0x402da1732fc9bebf, 0x4551231950b75fc4, 1, 0}

// scalar is a number modulo order.
type scalar number

// readKey returns what the bytes encode, and whether it is a key.
func readKey(b [32]byte) (scalar, bool) {
	a := read(b)
	return scalar(a), a != number{} && a.below(order)
}

func (a scalar) bytes() [32]byte { return number(a).bytes() }

func (a scalar) plus(b scalar) scalar {
	return scalar(plusModulo(number(a), number(b), order))
}

func (a scalar) negative() scalar {
	return scalar(minusModulo(number{}, number(a), order))
}

func (a scalar) times(b scalar) scalar {
	product := times(number(a), number(b))
	low, high := number(product[:4]), number(product[4:])
	for high != (number{}) {
		product = times(high, beyondOrder)
		sum, carry := plus(low, number(product[:4]))
		low = sum
		high, _ = plus(number(product[4:]), number{carry})
	}
	return scalar(modulo(low, order))
}

// inverse returns the scalar whose product with a is 1 (0 for 0).
func (a scalar) inverse() scalar {
	exponent, _ := minus(order, number{2})
	return power(a, scalar{1}, exponent, scalar.times)
}
