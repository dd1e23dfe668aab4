package curve

import (
	"math/big"
	"testing"
)

// toBig returns a number for package big to reckon with.
func toBig(a number) *big.Int {
	b := a.bytes()
	return new(big.Int).SetBytes(b[:])
}

// corners returns numbers whose sums and products carry in all the ways there are: all of the corner words in each place, and those about both moduli.
func corners() []number {
	words := []uint64{0, 1, 1 << 63, ^uint64(0)}
	var out []number
	for i := range 256 {
		out = append(out, number{words[i%4], words[i/4%4], words[i/16%4], words[i/64]})
	}
	for _, m := range []number{prime, order} {
		for by := range uint64(4) {
			more, _ := plus(m, number{by})
			less, _ := minus(m, number{by})
			square, _ := minus(number{}, number{m[0], by})
			out = append(out, more, less, square, number{beyondPrime - by}, number{beyondOrder[0] - by, beyondOrder[1], beyondOrder[2]})
		}
	}
	return out
}

// below returns the corners that are below a modulus.
func below(m number) []number {
	var out []number
	for _, a := range corners() {
		if a.below(m) {
			out = append(out, a)
		}
	}
	return out
}

func TestNumbersAsBytes(t *testing.T) {
	for _, a := range corners() {
		if read(a.bytes()) != a {
			t.Errorf("%x comes back as %x", a, read(a.bytes()))
		}
		n := new(big.Int)
		for i := 63; i >= 0; i-- {
			n.Lsh(n, 4).Add(n, new(big.Int).SetUint64(a.digit(i)))
		}
		if n.Cmp(toBig(a)) != 0 {
			t.Errorf("the digits of %x are %x", a, n)
		}
	}
}

func TestNumbersTimes(t *testing.T) {
	for _, a := range corners() {
		for _, b := range corners() {
			got := times(a, b)
			n := new(big.Int).Lsh(toBig(number(got[4:])), 256)
			n.Add(n, toBig(number(got[:4])))
			if n.Cmp(new(big.Int).Mul(toBig(a), toBig(b))) != 0 {
				t.Fatalf("%x times %x = %x", a, b, got)
			}
			if a.below(b) != (toBig(a).Cmp(toBig(b)) < 0) {
				t.Fatalf("%x below %x: %t", a, b, a.below(b))
			}
		}
	}
}

// holdAll holds the sums and products of all corners modulo m against those of package big.
func holdAll(t *testing.T, m number, plus, times func(a, b number) number) {
	t.Helper()
	modulus, all := toBig(m), below(m)
	for _, a := range all {
		for _, b := range all {
			n := new(big.Int).Add(toBig(a), toBig(b))
			if got := plus(a, b); toBig(got).Cmp(n.Mod(n, modulus)) != 0 {
				t.Fatalf("%x plus %x = %x", a, b, got)
			}
			n.Mul(toBig(a), toBig(b))
			if got := times(a, b); toBig(got).Cmp(n.Mod(n, modulus)) != 0 {
				t.Fatalf("%x times %x = %x", a, b, got)
			}
		}
	}
}

func TestElements(t *testing.T) {
	holdAll(t, prime,
		func(a, b number) number { return number(element(a).plus(element(b))) },
		func(a, b number) number { return number(element(a).times(element(b))) })
	for _, n := range below(prime) {
		a := element(n)
		if a.times(a.inverse()) != (element{1}) && a != (element{}) {
			t.Errorf("the inverse of %x is %x", a, a.inverse())
		}
		for _, m := range below(prime) {
			if b := element(m); a.minus(b).plus(b) != a || !number(a.minus(b)).below(prime) {
				t.Fatalf("%x minus %x = %x", a, b, a.minus(b))
			}
		}
		root, ok := a.root()
		if want := new(big.Int).ModSqrt(toBig(n), toBig(prime)); ok != (want != nil) || ok && root.times(root) != a {
			t.Errorf("the root of %x is %x, %t", a, root, ok)
		}
	}
}

func TestScalars(t *testing.T) {
	holdAll(t, order,
		func(a, b number) number { return number(scalar(a).plus(scalar(b))) },
		func(a, b number) number { return number(scalar(a).times(scalar(b))) })
	for _, n := range below(order) {
		a := scalar(n)
		if a.times(a.inverse()) != (scalar{1}) && a != (scalar{}) {
			t.Errorf("the inverse of %x is %x", a, a.inverse())
		}
		if a.plus(a.negative()) != (scalar{}) || !number(a.negative()).below(order) {
			t.Errorf("the negative of %x is %x", a, a.negative())
		}
	}
}

func TestModuli(t *testing.T) {
	for _, c := range []struct{ m, beyond number }{{prime, number{beyondPrime}}, {order, beyondOrder}} {
		if sum, carry := plus(c.m, c.beyond); sum != (number{}) || carry != 1 {
			t.Errorf("%x and %x are not 2^256", c.m, c.beyond)
		}
		for _, a := range corners() {
			want := new(big.Int).Mod(toBig(a), toBig(c.m))
			if got := modulo(a, c.m); toBig(got).Cmp(want) != 0 {
				t.Errorf("%x modulo %x = %x", a, c.m, got)
			}
		}
	}
}

// TestPoints has the sums that need another rule, in coordinates of different z.
func TestPoints(t *testing.T) {
	two := base.double()
	four := two.double()
	three := two.plus(base)
	infinity := point{}
	for what, pair := range map[string][2]point{
		"4 = 2 + 2":     {two.plus(two), four},
		"4 = 3 + 1":     {three.plus(base), four},
		"4 = 1 + 3":     {base.plus(three), four},
		"6 = 3 + 3":     {three.plus(base.plus(two)), four.plus(two)},
		"5 = 5 + 0":     {four.plus(base).plus(infinity), three.plus(two)},
		"5 = 0 + 5":     {infinity.plus(four.plus(base)), three.plus(two)},
		"8 = 2 times 4": {total(term{scalar{2}, four}), four.plus(four)},
		"no 1 and 3":    {total(term{scalar{}, base}, term{scalar{1}, three}), three},
		"7 and 9":       {total(term{scalar{7}, base}, term{scalar{3}, three}), four.double().double()},
	} {
		got, _ := pair[0].public()
		want, ok := pair[1].public()
		if got != want || !ok {
			t.Errorf("%s: %x, %x", what, got, want)
		}
	}
	x, y := three.affine()
	reflected := point{x, element{}.minus(y), element{1}}
	top, _ := minus(order, number{1})
	for what, p := range map[string]point{
		"3 - 3":     three.plus(reflected),
		"- 3 + 3":   reflected.plus(three),
		"0 + 0":     infinity.plus(infinity),
		"0 times 2": infinity.double(),
		"n":         total(term{scalar(top), base}).plus(base),
		"nothing":   total(),
		"0 times 3": total(term{scalar{}, three}),
	} {
		if pub, ok := p.public(); !p.isInfinity() || ok || pub != [33]byte{} {
			t.Errorf("%s: %x", what, p)
		}
	}
}
