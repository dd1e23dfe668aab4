package curve_test

import (
	"math/big"
	"testing"

	"strongbox/api"
	"strongbox/curve"
)

// addKey holds AddKey against an answer; nil is none.
func addKey(t *testing.T, k, by, want *big.Int, wantErr api.Errno) {
	t.Helper()
	if want == nil {
		want = small(0)
	}
	got, err := curve.AddKey(key(k), key(by))
	if got != key(want) || err != wantErr {
		t.Errorf("AddKey(%x, %x) = %x, error %d, want %x, error %d", k, by, got, err, want, wantErr)
	}
}

// addPublic holds AddPublic against an answer; nil is none.
func addPublic(t *testing.T, pub [33]byte, by *big.Int, want *dot, wantErr api.Errno) {
	t.Helper()
	var wanted [33]byte
	if want != nil {
		wanted = want.public()
	}
	got, err := curve.AddPublic(pub, key(by))
	if got != wanted || err != wantErr {
		t.Errorf("AddPublic(%x, %x) = %x, error %d, want %x, error %d", pub, by, got, err, wanted, wantErr)
	}
}

// numbers returns what may be added: keys, and 0.
func numbers() []*big.Int { return append(edges(), small(0)) }

// beyond returns numbers that may not be added.
func beyond() []*big.Int { return noKeys()[1:] }

func TestP5_2AddKey(t *testing.T) {
	for _, k := range edges() {
		for _, by := range numbers() {
			want := modulo(sum(k, by), order())
			if want.Sign() == 0 {
				addKey(t, k, by, nil, api.ErrNone)
			} else {
				addKey(t, k, by, want, api.OK)
			}
		}
	}
}

func TestP5_2AddKeyEdges(t *testing.T) {
	top := difference(order(), small(1))
	addKey(t, top, small(1), nil, api.ErrNone)
	addKey(t, small(1), top, nil, api.ErrNone)
	addKey(t, top, small(0), top, api.OK)
	addKey(t, top, small(2), small(1), api.OK)
	addKey(t, top, top, difference(order(), small(2)), api.OK)
	addKey(t, small(1), small(0), small(1), api.OK)
	addKey(t, small(1), small(1), small(2), api.OK)
}

func TestP5_2AddKeyWrong(t *testing.T) {
	for _, k := range noKeys() {
		for _, by := range append(numbers(), beyond()...) {
			addKey(t, k, by, nil, api.ErrArg)
		}
	}
	for _, k := range edges() {
		for _, by := range beyond() {
			addKey(t, k, by, nil, api.ErrArg)
		}
	}
}

func TestP5_2AddPublic(t *testing.T) {
	for _, k := range append(some(4, order()), small(1), small(2), difference(order(), small(1))) {
		p := baseDot().times(k)
		for _, by := range append(numbers(), k, difference(order(), k)) {
			want := p.plus(baseDot().times(by))
			if want == nil {
				addPublic(t, p.public(), by, nil, api.ErrNone)
			} else {
				addPublic(t, p.public(), by, want, api.OK)
			}
		}
	}
}

func TestP5_2AddPublicEdges(t *testing.T) {
	top := difference(order(), small(1))
	one := baseDot()
	two := one.plus(one)
	// A point and itself, a point and its reflection, and a point and nothing.
	addPublic(t, one.public(), small(1), two, api.OK)
	addPublic(t, two.public(), small(2), two.plus(two), api.OK)
	addPublic(t, one.negative().public(), top, two.negative(), api.OK)
	addPublic(t, one.negative().public(), small(1), nil, api.ErrNone)
	addPublic(t, one.public(), top, nil, api.ErrNone)
	addPublic(t, two.public(), difference(order(), small(2)), nil, api.ErrNone)
	addPublic(t, one.public(), small(0), one, api.OK)
	addPublic(t, one.negative().public(), small(0), one.negative(), api.OK)
	// A public key whose key nobody knows.
	other := at(small(1), true)
	addPublic(t, other.public(), small(5), other.plus(one.times(small(5))), api.OK)
}

func TestP5_2AddPublicWrong(t *testing.T) {
	good := baseDot().public()
	none, infinite, beyondPrime := good, good, good
	none = [33]byte{2, 32: 5}
	infinite[0] = 0
	x := key(sum(prime(), small(1)))
	copy(beyondPrime[1:], x[:])
	for _, pub := range [][33]byte{none, infinite, beyondPrime, {}, {2}, {3}, {4: 1}} {
		for _, by := range numbers() {
			addPublic(t, pub, by, nil, api.ErrForm)
		}
		// Both are wrong: the lesser error is told.
		for _, by := range beyond() {
			addPublic(t, pub, by, nil, api.ErrArg)
		}
	}
	for _, by := range beyond() {
		addPublic(t, good, by, nil, api.ErrArg)
	}
}

func TestP5_2PublicOfASum(t *testing.T) {
	all := edges()
	for i, k := range all {
		for j := range 6 {
			by := all[(7*i+j*j)%len(all)]
			added, err := curve.AddKey(key(k), key(by))
			got, gotErr := curve.AddPublic(mustPublic(t, k), key(by))
			if err != gotErr || err == api.OK && got != mustPublic(t, fromKey(added)) {
				t.Errorf("AddPublic of %x and %x = %x, error %d; AddKey = %x, error %d", k, by, got, gotErr, added, err)
			}
		}
	}
}
