package curve_test

import (
	"bytes"
	"encoding/hex"
	"math/big"
	"testing"

	"strongbox/api"
	"strongbox/curve"
)

// noKeys returns the numbers of 32 bytes at the edges that are not keys.
func noKeys() []*big.Int {
	n := order()
	return []*big.Int{small(0), n, sum(n, small(1)), sum(n, small(2)), prime(), difference(greatest(), small(1)), greatest()}
}

func TestP5_1Valid(t *testing.T) {
	for _, k := range edges() {
		if !curve.Valid(key(k)) {
			t.Errorf("%x is not valid", k)
		}
	}
	for _, k := range noKeys() {
		if curve.Valid(key(k)) {
			t.Errorf("%x is valid", k)
		}
	}
	// Each word of the order counts.
	for bits := range uint(256) {
		for _, n := range []*big.Int{shifted(bits), difference(order(), shifted(bits)), modulo(sum(order(), shifted(bits)), shifted(256))} {
			if curve.Valid(key(n)) != (n.Sign() > 0 && n.Cmp(order()) < 0) {
				t.Errorf("Valid(%x) = %t", n, curve.Valid(key(n)))
			}
		}
	}
}

func TestP5_1PublicExamples(t *testing.T) {
	for k, want := range map[string]string{
		"1":  "0279be667ef9dcbbac55a06295ce870b07029bfcdb2dce28d959f2815b16f81798",
		"2":  "02c6047f9441ed7d6d3045406e95c07cd85c778e4b8cef3ca7abac09b95c709ee5",
		"3":  "02f9308a019258c31049344f85f89d5229b531c845836f99b08601f113bce036f9",
		"4":  "02e493dbf1c10d80f3581e4904930b1404cc6c13900ee0758474fa94abe8c4cd13",
		"5":  "022f8bde4d1a07209355b4a7250a5c5128e88b84bddc619ab7cba8d569b240efe4",
		"6":  "03fff97bd5755eeea420453a14355235d382f6472f8568a18b2f057a1460297556",
		"7":  "025cbdf0646e5db4eaa398f365f2ea7a0e3d419b7e0330e39ce92bddedcac4f9bc",
		"14": "024ce119c96e2fa357200b559b2f7dd5a5f02d5290aff74b03f3e471b273211c97",
		"FFFFFFFFFFFFFFFFFFFFFFFFFFFFFFFEBAAEDCE6AF48A03BBFD25E8CD0364140": "0379be667ef9dcbbac55a06295ce870b07029bfcdb2dce28d959f2815b16f81798",
		"FFFFFFFFFFFFFFFFFFFFFFFFFFFFFFFEBAAEDCE6AF48A03BBFD25E8CD036413F": "03c6047f9441ed7d6d3045406e95c07cd85c778e4b8cef3ca7abac09b95c709ee5",
	} {
		pub := mustPublic(t, fromHex(k))
		if got := hex.EncodeToString(pub[:]); got != want {
			t.Errorf("Public(%s) = %s, want %s", k, got, want)
		}
	}
}

func TestP5_1Public(t *testing.T) {
	for _, k := range edges() {
		pub := mustPublic(t, k)
		if want := baseDot().times(k).public(); pub != want {
			t.Errorf("Public(%x) = %x, want %x", k, pub, want)
		}
		if !curve.IsPublic(pub[:]) {
			t.Errorf("Public(%x) = %x is no public key", k, pub)
		}
	}
	for _, k := range noKeys() {
		if pub, err := curve.Public(key(k)); err != api.ErrArg || pub != [33]byte{} {
			t.Errorf("Public(%x) = %x, error %d", k, pub, err)
		}
	}
}

// TestP5_1EverySmallPublic holds the first public keys against sums of one more G each.
func TestP5_1EverySmallPublic(t *testing.T) {
	var want *dot
	for k := int64(1); k <= 300; k++ {
		want = want.plus(baseDot())
		if pub := mustPublic(t, small(k)); pub != want.public() {
			t.Fatalf("Public(%d) = %x, want %x", k, pub, want.public())
		}
	}
}

// TestP5_1XOfPoints has any x, small ones and those about p: some have points, some have not.
func TestP5_1XOfPoints(t *testing.T) {
	p := prime()
	all := append(some(100, p), some(10, greatest())...)
	for n := range int64(100) {
		all = append(all, small(n), difference(p, small(n+1)), sum(p, small(n)))
	}
	all = append(all, order(), sum(order(), small(1)), difference(greatest(), small(1)), greatest())
	points := 0
	for _, x := range all {
		want := x.Cmp(p) < 0 && at(x, false) != nil
		if want {
			points++
		}
		b := key(x)
		for first := range 256 {
			pub := append([]byte{byte(first)}, b[:]...)
			if got := curve.IsPublic(pub); got != (want && (first == 2 || first == 3)) {
				t.Errorf("IsPublic(%x) = %t", pub, got)
			}
		}
	}
	if points < 50 || points > len(all)-50 {
		t.Errorf("%d of %d have points: too few or too many to tell", points, len(all))
	}
}

func TestP5_1IsPublicEdges(t *testing.T) {
	for s, want := range map[string]bool{
		"0279be667ef9dcbbac55a06295ce870b07029bfcdb2dce28d959f2815b16f81798": true,
		"0379be667ef9dcbbac55a06295ce870b07029bfcdb2dce28d959f2815b16f81798": true,
		// The x 1 has points; 0, p and p + 1 (which is 1 modulo p) have not.
		"020000000000000000000000000000000000000000000000000000000000000001": true,
		"030000000000000000000000000000000000000000000000000000000000000001": true,
		"020000000000000000000000000000000000000000000000000000000000000000": false,
		"030000000000000000000000000000000000000000000000000000000000000000": false,
		"02fffffffffffffffffffffffffffffffffffffffffffffffffffffffefffffc2f": false,
		"03fffffffffffffffffffffffffffffffffffffffffffffffffffffffefffffc2f": false,
		"02fffffffffffffffffffffffffffffffffffffffffffffffffffffffefffffc30": false,
		"03fffffffffffffffffffffffffffffffffffffffffffffffffffffffefffffc30": false,
		"02ffffffffffffffffffffffffffffffffffffffffffffffffffffffffffffffff": false,
		// The x 5 has none.
		"020000000000000000000000000000000000000000000000000000000000000005": false,
		"030000000000000000000000000000000000000000000000000000000000000005": false,
		// The point at infinity and whole points are written otherwise.
		"00": false,
		"000000000000000000000000000000000000000000000000000000000000000000":                                                                 false,
		"0479be667ef9dcbbac55a06295ce870b07029bfcdb2dce28d959f2815b16f81798":                                                                 false,
		"0679be667ef9dcbbac55a06295ce870b07029bfcdb2dce28d959f2815b16f81798":                                                                 false,
		"0479be667ef9dcbbac55a06295ce870b07029bfcdb2dce28d959f2815b16f81798483ada7726a3c4655da4fbfc0e1108a8fd17b448a68554199c47d08ffb10d4b8": false,
	} {
		if got := curve.IsPublic(unhex(s)); got != want {
			t.Errorf("IsPublic(%s) = %t", s, got)
		}
	}
}

func TestP5_1IsPublicLengths(t *testing.T) {
	good := mustPublic(t, small(9))
	long := append(good[:], good[:]...)
	for n := range len(long) + 1 {
		if got := curve.IsPublic(long[:n]); got != (n == 33) {
			t.Errorf("%d bytes: %t", n, got)
		}
	}
	if curve.IsPublic(nil) || curve.IsPublic(good[1:]) || curve.IsPublic(bytes.Repeat([]byte{2}, 100000)) {
		t.Errorf("a list of another length is a public key")
	}
}

func TestP5_5PublicMemory(t *testing.T) {
	pub := mustPublic(t, small(9))
	for _, n := range []int{0, 1, 32, 33} {
		room := append(pub[:], 1, 2, 3, 4, 5)
		curve.IsPublic(room[:n])
		if !bytes.Equal(room, append(pub[:], 1, 2, 3, 4, 5)) {
			t.Errorf("IsPublic of %d bytes changed them, or what is behind them", n)
		}
	}
}
