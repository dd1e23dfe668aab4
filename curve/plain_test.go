package curve_test

import (
	"crypto/sha256"
	"encoding/hex"
	"math/big"
	"testing"

	"strongbox/api"
	"strongbox/curve"
)

// The curve as the document says it, with whole numbers and points of two coordinates: what the tests hold the package against.

const (
	orderText = "FFFFFFFFFFFFFFFFFFFFFFFFFFFFFFFEBAAEDCE6AF48A03BBFD25E8CD0364141"
	baseText  = "79BE667EF9DCBBAC55A06295CE870B07029BFCDB2DCE28D959F2815B16F81798"
)

func fromHex(s string) *big.Int {
	n, _ := new(big.Int).SetString(s, 16)
	return n
}

func small(n int64) *big.Int            { return big.NewInt(n) }
func sum(a, b *big.Int) *big.Int        { return new(big.Int).Add(a, b) }
func difference(a, b *big.Int) *big.Int { return new(big.Int).Sub(a, b) }
func product(a, b *big.Int) *big.Int    { return new(big.Int).Mul(a, b) }
func modulo(a, m *big.Int) *big.Int     { return new(big.Int).Mod(a, m) }
func shifted(bits uint) *big.Int        { return new(big.Int).Lsh(small(1), bits) }
func order() *big.Int                   { return fromHex(orderText) }
func prime() *big.Int                   { return difference(difference(shifted(256), shifted(32)), small(977)) }
func greatest() *big.Int                { return difference(shifted(256), small(1)) }

// key returns a number in 32 bytes.
func key(n *big.Int) (out [32]byte) {
	n.FillBytes(out[:])
	return out
}

func fromKey(b [32]byte) *big.Int { return new(big.Int).SetBytes(b[:]) }

// dot is a point of the curve; nil is the one at infinity.
type dot struct{ x, y *big.Int }

// at returns the point with that x, and an odd or even y, or nil.
func at(x *big.Int, odd bool) *dot {
	square := modulo(sum(product(product(x, x), x), small(7)), prime())
	y := new(big.Int).ModSqrt(square, prime())
	if y == nil {
		return nil
	}
	if (y.Bit(0) == 1) != odd {
		y.Sub(prime(), y)
	}
	return &dot{x, y}
}

func baseDot() *dot { return at(fromHex(baseText), false) }

func (a *dot) negative() *dot { return &dot{a.x, modulo(difference(small(0), a.y), prime())} }

func (a *dot) plus(b *dot) *dot {
	if a == nil {
		return b
	}
	if b == nil {
		return a
	}
	rise, run := difference(b.y, a.y), difference(b.x, a.x)
	if run.Sign() == 0 {
		if rise.Sign() != 0 {
			return nil
		}
		rise, run = product(small(3), product(a.x, a.x)), product(small(2), a.y)
	}
	slope := modulo(product(rise, new(big.Int).ModInverse(modulo(run, prime()), prime())), prime())
	x := modulo(difference(difference(product(slope, slope), a.x), b.x), prime())
	y := modulo(difference(product(slope, difference(a.x, x)), a.y), prime())
	return &dot{x, y}
}

func (a *dot) times(n *big.Int) *dot {
	var out *dot
	for i := n.BitLen() - 1; i >= 0; i-- {
		out = out.plus(out)
		if n.Bit(i) == 1 {
			out = out.plus(a)
		}
	}
	return out
}

// public returns a point as a public key.
func (a *dot) public() [33]byte {
	out := [33]byte{2 + byte(a.y.Bit(0))}
	a.x.FillBytes(out[1:])
	return out
}

// inverse returns what makes 1 with a modulo the order.
func inverse(a *big.Int) *big.Int { return new(big.Int).ModInverse(a, order()) }

// accepts is Verify as the document says it, for numbers from 1 to n - 1.
func accepts(p *dot, e, r, s *big.Int) bool {
	w := inverse(s)
	found := baseDot().times(modulo(product(e, w), order())).plus(p.times(modulo(product(r, w), order())))
	return found != nil && modulo(found.x, order()).Cmp(r) == 0
}

// signature returns r and s in 64 bytes.
func signature(r, s *big.Int) []byte {
	out := make([]byte, 64)
	r.FillBytes(out[:32])
	s.FillBytes(out[32:])
	return out
}

// some returns any numbers below a limit, always the same.
func some(n int, limit *big.Int) []*big.Int {
	var out []*big.Int
	seed := sha256.Sum256([]byte("any"))
	for range n {
		seed = sha256.Sum256(seed[:])
		out = append(out, modulo(fromKey(seed), limit))
	}
	return out
}

// edges returns the numbers at both ends of the keys, at the ends of words, and any others; all are keys.
func edges() []*big.Int {
	n := order()
	out := []*big.Int{small(1), small(2), small(3), small(15), small(16), small(17)}
	for _, by := range []int64{1, 2, 3, 15, 16, 17} {
		out = append(out, difference(n, small(by)))
	}
	half := new(big.Int).Rsh(n, 1)
	out = append(out, half, sum(half, small(1)))
	for _, bits := range []uint{32, 63, 64, 65, 127, 128, 129, 192, 255} {
		out = append(out, shifted(bits), difference(shifted(bits), small(1)), sum(shifted(bits), small(1)))
	}
	return append(out, some(20, n)...)
}

// mustPublic returns the public key of a key.
func mustPublic(t *testing.T, k *big.Int) [33]byte {
	t.Helper()
	pub, err := curve.Public(key(k))
	if err != api.OK {
		t.Fatalf("Public(%x): error %d", k, err)
	}
	return pub
}

func unhex(s string) []byte {
	b, err := hex.DecodeString(s)
	if err != nil {
		panic(err)
	}
	return b
}
