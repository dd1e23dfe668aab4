package curve_test

import (
	"bytes"
	"math/big"
	"testing"

	"strongbox/api"
	"strongbox/curve"
)

// messages returns messages at the edges of the numbers modulo n, and others.
func messages() []api.Hash {
	var out []api.Hash
	for _, e := range append(noKeys(), small(1), difference(order(), small(1)), shifted(255)) {
		out = append(out, key(e))
	}
	for _, e := range some(3, greatest()) {
		out = append(out, key(e))
	}
	return out
}

// mustSign returns a key's signature of a message.
func mustSign(t *testing.T, k *big.Int, msg api.Hash) []byte {
	t.Helper()
	sig, err := curve.Sign(key(k), msg)
	if err != api.OK {
		t.Fatalf("Sign(%x, %x): error %d", k, msg, err)
	}
	return sig[:]
}

// expect holds Verify against an answer.
func expect(t *testing.T, what string, pub []byte, msg api.Hash, sig []byte, want bool) {
	t.Helper()
	if got := curve.Verify(pub, msg, sig); got != want {
		t.Errorf("%s: Verify(%x, %x, %x) = %t", what, pub, msg, sig, got)
	}
}

// halves returns the r and s of a signature.
func halves(sig []byte) (r, s *big.Int) {
	return new(big.Int).SetBytes(sig[:32]), new(big.Int).SetBytes(sig[32:])
}

func TestP5_4SignAndVerify(t *testing.T) {
	half := new(big.Int).Rsh(order(), 1)
	for _, k := range edges() {
		pub := mustPublic(t, k)
		for _, msg := range messages() {
			sig := mustSign(t, k, msg)
			expect(t, "a signature", pub[:], msg, sig, true)
			r, s := halves(sig)
			if r.Sign() == 0 || r.Cmp(order()) >= 0 || s.Sign() == 0 || s.Cmp(half) > 0 {
				t.Errorf("Sign(%x, %x) = %x", k, msg, sig)
			}
			if again := mustSign(t, k, msg); !bytes.Equal(again, sig) {
				t.Errorf("Sign(%x, %x) = %x, and then %x", k, msg, sig, again)
			}
		}
	}
}

// TestP5_4SignaturesAreReal holds what Sign makes against the document's own words.
func TestP5_4SignaturesAreReal(t *testing.T) {
	for _, k := range append(some(3, order()), small(1), difference(order(), small(1))) {
		for _, msg := range messages() {
			r, s := halves(mustSign(t, k, msg))
			if !accepts(baseDot().times(k), fromKey(msg), r, s) {
				t.Errorf("Sign(%x, %x) = %x, %x", k, msg, r, s)
			}
		}
	}
}

// TestP5_4SecretsDiffer: who finds one r in signatures of two messages can tell the key.
func TestP5_4SecretsDiffer(t *testing.T) {
	seen := map[string]bool{}
	for _, k := range edges() {
		for _, msg := range messages() {
			r := string(mustSign(t, k, msg)[:32])
			if seen[r] {
				t.Errorf("Sign(%x, %x): the r of another signature", k, msg)
			}
			seen[r] = true
		}
	}
}

func TestP5_4SignWrong(t *testing.T) {
	for _, k := range noKeys() {
		for _, msg := range messages() {
			if sig, err := curve.Sign(key(k), msg); err != api.ErrArg || sig != [64]byte{} {
				t.Errorf("Sign(%x, %x) = %x, error %d", k, msg, sig, err)
			}
		}
	}
}

// TestP5_3Verify has signatures that are made here, each with a secret of the test's own.
func TestP5_3Verify(t *testing.T) {
	n := order()
	for i, secret := range edges() {
		k := edges()[len(edges())-1-i]
		p := baseDot().times(k)
		pub := p.public()
		msg := messages()[i%len(messages())]
		r := modulo(baseDot().times(secret).x, n)
		s := modulo(product(inverse(secret), sum(fromKey(msg), product(r, k))), n)
		if s.Sign() == 0 {
			continue
		}
		expect(t, "s", pub[:], msg, signature(r, s), true)
		expect(t, "n - s", pub[:], msg, signature(r, difference(n, s)), true)
		reflected := p.negative().public()
		expect(t, "the reflected key", reflected[:], msg, signature(r, s), accepts(p.negative(), fromKey(msg), r, s))
		// A message counts modulo n.
		if e := sum(fromKey(msg), n); e.Cmp(greatest()) <= 0 {
			expect(t, "n more", pub[:], key(e), signature(r, s), true)
		}
	}
}

// TestP5_3AnySignature has any numbers as signatures, and some that Verify accepts.
func TestP5_3AnySignature(t *testing.T) {
	all := some(60, order())
	for i := 0; i+3 < len(all); i += 4 {
		p := baseDot().times(all[i])
		pub := p.public()
		e, r, s := all[i+1], all[i+2], all[i+3]
		expect(t, "any numbers", pub[:], key(e), signature(r, s), accepts(p, e, r, s))
	}
}

func TestP5_3Lengths(t *testing.T) {
	pub, msg := mustPublic(t, small(5)), api.Hash{1, 2, 3}
	sig := mustSign(t, small(5), msg)
	long := append(bytes.Clone(sig), sig...)
	for n := range len(long) + 1 {
		expect(t, "so many bytes", pub[:], msg, long[:n], n == 64)
	}
	expect(t, "no signature", pub[:], msg, nil, false)
	expect(t, "a 0 ahead", pub[:], msg, append([]byte{0}, sig...), false)
	expect(t, "a byte behind", pub[:], msg, append(bytes.Clone(sig), 1), false)
	expect(t, "without its first", pub[:], msg, sig[1:], false)

	longPub := append(pub[:], pub[:]...)
	for n := range len(longPub) + 1 {
		expect(t, "a key of so many bytes", longPub[:n], msg, sig, n == 33)
	}
	expect(t, "no key", nil, msg, sig, false)
}

func TestP5_3Ranges(t *testing.T) {
	n, msg := order(), api.Hash{1, 2, 3}
	pub := mustPublic(t, small(5))
	r, s := halves(mustSign(t, small(5), msg))
	expect(t, "as it is", pub[:], msg, signature(r, s), true)
	for _, wrong := range noKeys() {
		expect(t, "r", pub[:], msg, signature(wrong, s), false)
		expect(t, "s", pub[:], msg, signature(r, wrong), false)
		for _, other := range noKeys() {
			expect(t, "both", pub[:], msg, signature(wrong, other), false)
		}
	}
	expect(t, "s above half of n", pub[:], msg, signature(r, difference(n, s)), true)
	expect(t, "r reflected", pub[:], msg, signature(difference(n, r), s), false)
	expect(t, "the halves exchanged", pub[:], msg, signature(s, r), false)
	for _, at := range []*big.Int{small(1), difference(n, small(1))} {
		expect(t, "r at an end", pub[:], msg, signature(at, s), false)
		expect(t, "s at an end", pub[:], msg, signature(r, at), false)
	}
}

// TestP5_3GreaterByN has small r and s, which fit into 32 bytes with n added: only the small ones are accepted.
func TestP5_3GreaterByN(t *testing.T) {
	n, e := order(), small(77)
	found := at(small(1), false)
	r := found.x
	for _, s := range []*big.Int{small(1), small(2), small(1000)} {
		p := keyFor(found, e, r, s)
		pub := p.public()
		expect(t, "small", pub[:], key(e), signature(r, s), true)
		expect(t, "r + n", pub[:], key(e), signature(sum(r, n), s), false)
		expect(t, "s + n", pub[:], key(e), signature(r, sum(s, n)), false)
		expect(t, "r + p", pub[:], key(e), signature(sum(r, prime()), s), false)
	}
}

// keyFor returns the public key for which Verify finds a point.
func keyFor(found *dot, e, r, s *big.Int) *dot {
	n := order()
	rest := found.times(s).plus(baseDot().times(modulo(difference(small(0), e), n)))
	return rest.times(inverse(r))
}

// TestP5_3XBeyondN has points whose x is n or greater, so that it is r only modulo n.
func TestP5_3XBeyondN(t *testing.T) {
	n, e := order(), small(12345)
	tried := 0
	for i := int64(1); tried < 5; i++ {
		r := small(i)
		found := at(sum(n, r), i%2 == 0)
		if found == nil {
			continue
		}
		tried++
		for _, s := range append(some(2, n), small(1), difference(n, small(1))) {
			p := keyFor(found, e, r, s)
			pub := p.public()
			expect(t, "an x beyond n", pub[:], key(e), signature(r, s), true)
			expect(t, "one more", pub[:], key(e), signature(small(i+1), s), false)
			expect(t, "the x itself", pub[:], key(e), signature(found.x, s), false)
		}
	}
}

// TestP5_3Infinity has e + r k = 0 modulo n, so that the sum is the point at infinity, for any s.
func TestP5_3Infinity(t *testing.T) {
	n := order()
	for _, k := range append(some(3, n), small(1), difference(n, small(1))) {
		pub := mustPublic(t, k)
		for _, r := range append(some(3, n), small(1), difference(n, small(1))) {
			msg := key(modulo(difference(small(0), product(r, k)), n))
			for _, s := range append(some(2, n), small(1)) {
				expect(t, "the point at infinity", pub[:], msg, signature(r, s), false)
			}
		}
	}
}

// TestP5_3EqualTerms has e = r and the keys 1 and n - 1, so that both terms of the sum are one point, or reflections of each other.
func TestP5_3EqualTerms(t *testing.T) {
	n := order()
	top := difference(n, small(1))
	for _, secret := range edges() {
		r := modulo(baseDot().times(secret).x, n)
		s := modulo(product(inverse(secret), sum(r, r)), n)
		one, last := mustPublic(t, small(1)), mustPublic(t, top)
		expect(t, "equal terms", one[:], key(r), signature(r, s), true)
		expect(t, "equal terms of n - 1", last[:], key(difference(n, r)), signature(r, s), true)
		expect(t, "terms that make nothing", last[:], key(r), signature(r, s), false)
	}
}

// TestP5_3NoMessage has an e of 0: the sum has but one term.
func TestP5_3NoMessage(t *testing.T) {
	n := order()
	for _, msg := range []api.Hash{{}, key(n)} {
		for _, k := range append(some(3, n), small(1)) {
			pub := mustPublic(t, k)
			sig := mustSign(t, k, msg)
			r, s := halves(sig)
			if !accepts(baseDot().times(k), small(0), r, s) {
				t.Errorf("Sign(%x, %x) = %x", k, msg, sig)
			}
			expect(t, "0", pub[:], api.Hash{}, sig, true)
			expect(t, "n", pub[:], key(n), sig, true)
			expect(t, "1", pub[:], key(small(1)), sig, false)
		}
	}
}

func TestP5_3OneBitTurned(t *testing.T) {
	k := some(1, order())[0]
	pub, msg := mustPublic(t, k), api.Hash{1, 2, 3}
	sig := mustSign(t, k, msg)
	for i := range 8 * len(sig) {
		bad := bytes.Clone(sig)
		bad[i/8] ^= 1 << (i % 8)
		expect(t, "a bit of the signature", pub[:], msg, bad, false)
	}
	for i := range 8 * len(msg) {
		bad := msg
		bad[i/8] ^= 1 << (i % 8)
		expect(t, "a bit of the message", pub[:], bad, sig, false)
	}
	for i := range 8 * len(pub) {
		bad := pub
		bad[i/8] ^= 1 << (i % 8)
		expect(t, "a bit of the key", bad[:], msg, sig, false)
	}
}

func TestP5_3OfAnother(t *testing.T) {
	keys := some(4, order())
	for i, k := range keys {
		for _, msg := range messages() {
			sig := mustSign(t, k, msg)
			for j, other := range keys {
				pub := mustPublic(t, other)
				expect(t, "another key", pub[:], msg, sig, i == j)
			}
			pub := mustPublic(t, k)
			for _, other := range messages() {
				same := modulo(difference(fromKey(msg), fromKey(other)), order()).Sign() == 0
				expect(t, "another message", pub[:], other, sig, same)
			}
		}
	}
}

func TestP5_3WrongKeys(t *testing.T) {
	msg := api.Hash{4, 5, 6}
	sig := mustSign(t, small(5), msg)
	good := mustPublic(t, small(5))
	for first := range 256 {
		pub := good
		pub[0] = byte(first)
		expect(t, "another first byte", pub[:], msg, sig, pub == good)
	}
	for _, x := range append(noKeys(), small(5)) {
		b := key(x)
		expect(t, "another x", append([]byte{2}, b[:]...), msg, sig, false)
		expect(t, "another x", append([]byte{3}, b[:]...), msg, sig, false)
	}
	expect(t, "noughts", make([]byte, 33), msg, make([]byte, 64), false)
	expect(t, "a signature of noughts", good[:], msg, make([]byte, 64), false)
	expect(t, "ones", bytes.Repeat([]byte{255}, 33), msg, bytes.Repeat([]byte{255}, 64), false)
	expect(t, "nothing", nil, api.Hash{}, nil, false)
}

func TestP5_5SignMemory(t *testing.T) {
	pub, msg := mustPublic(t, small(5)), api.Hash{7}
	sig := mustSign(t, small(5), msg)
	tail := []byte{1, 2, 3, 4, 5, 6, 7, 8}
	pubRoom, sigRoom := append(pub[:], tail...), append(bytes.Clone(sig), tail...)
	for _, lengths := range [][2]int{{33, 64}, {32, 64}, {33, 63}, {34, 65}, {0, 0}} {
		curve.Verify(pubRoom[:lengths[0]], msg, sigRoom[:lengths[1]])
		if !bytes.Equal(pubRoom, append(pub[:], tail...)) || !bytes.Equal(sigRoom, append(bytes.Clone(sig), tail...)) {
			t.Fatalf("Verify changed its arguments")
		}
	}
	// What was given may change afterwards: nothing of it is kept.
	clear(pubRoom)
	clear(sigRoom)
	expect(t, "again", pub[:], msg, sig, true)
}
