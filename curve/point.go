package curve

// point is (x / z^2, y / z^3), or the point at infinity if z is 0: so only the end of a long sum needs an inverse.
type point struct{ x, y, z element }

// base is the G of the curve.
var base = point{
	x: element{0x59f2815b16f81798, 0x029bfcdb2dce28d9, 0x55a06295ce870b07, 0x79be667ef9dcbbac},
	y: element{0x9c47d08ffb10d4b8, 0xfd17b448a6855419, 0x5da4fbfc0e1108a8, 0x483ada7726a3c465},
	z: element{1},
}

// readPublic returns the point of a public key, or false if it is none.
func readPublic(pub []byte) (point, bool) {
	if len(pub) != 33 || pub[0] != 2 && pub[0] != 3 {
		return point{}, false
	}
	x := read([32]byte(pub[1:]))
	if !x.below(prime) {
		return point{}, false
	}
	return pointAt(element(x), pub[0] == 3)
}

// pointAt returns the point with that x and an odd or even y, or false if no point has that x.
func pointAt(x element, odd bool) (point, bool) {
	y, ok := x.square().times(x).plus(element{constant}).root()
	if !ok {
		return point{}, false
	}
	// No point has the y 0, because their number is odd.
	if y.odd() != odd {
		y = element{}.minus(y)
	}
	return point{x, y, element{1}}, true
}

// public returns the public key that is this point, and false for the one at infinity.
func (p point) public() ([33]byte, bool) {
	if p.isInfinity() {
		return [33]byte{}, false
	}
	x, y := p.affine()
	out := [33]byte{2}
	if y.odd() {
		out[0] = 3
	}
	b := number(x).bytes()
	copy(out[1:], b[:])
	return out, true
}

func (p point) isInfinity() bool { return p.z == element{} }

// affine returns the x and y of a point that is not the one at infinity.
func (p point) affine() (x, y element) {
	w := p.z.inverse()
	square := w.square()
	return p.x.times(square), p.y.times(square).times(w)
}

func (p point) double() point {
	if p.isInfinity() {
		return p
	}
	y2 := p.y.square()
	s := p.x.times(y2)
	s = s.plus(s)
	s = s.plus(s)
	x2 := p.x.square()
	m := x2.plus(x2).plus(x2)
	x := m.square().minus(s).minus(s)
	y4 := y2.plus(y2).square()
	y := m.times(s.minus(x)).minus(y4).minus(y4)
	z := p.y.times(p.z)
	return point{x, y, z.plus(z)}
}

func (p point) plus(q point) point {
	if p.isInfinity() {
		return q
	}
	if q.isInfinity() {
		return p
	}
	pz2, qz2 := p.z.square(), q.z.square()
	px, qx := p.x.times(qz2), q.x.times(pz2)
	py, qy := p.y.times(qz2).times(q.z), q.y.times(pz2).times(p.z)
	if px == qx && py == qy {
		return p.double()
	}
	// For a point and its reflection wide is 0, and so is z.
	wide, high := qx.minus(px), qy.minus(py)
	wide2 := wide.square()
	wide3 := wide2.times(wide)
	v := px.times(wide2)
	x := high.square().minus(wide3).minus(v).minus(v)
	y := high.times(v.minus(x)).minus(py.times(wide3))
	return point{x, y, p.z.times(q.z).times(wide)}
}

// term is a point so many times.
type term struct {
	count scalar
	of    point
}

// total returns the sum of the terms. It goes through the digits of all counts at once, so that the sum is doubled only once for all of them.
func total(terms ...term) point {
	tables := make([][16]point, len(terms))
	for i, t := range terms {
		tables[i] = t.of.multiples()
	}
	var sum point
	for digit := 63; digit >= 0; digit-- {
		for range 4 {
			sum = sum.double()
		}
		for i, t := range terms {
			sum = sum.plus(tables[i][number(t.count).digit(digit)])
		}
	}
	return sum
}

// multiples returns the point 0 to 15 times.
func (p point) multiples() [16]point {
	var out [16]point
	for i := 1; i < len(out); i++ {
		out[i] = out[i-1].plus(p)
	}
	return out
}
