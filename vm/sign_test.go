package vm_test

import (
	"bytes"
	"math"
	"slices"
	"testing"

	"strongbox/api"
	"strongbox/curve"
	"strongbox/vm"
)

// publicOf returns the public key of a small key.
func publicOf(n int) []byte {
	pub, err := curve.Public([32]byte{31: byte(n)})
	if err != api.OK {
		panic(err)
	}
	return pub[:]
}

// signBy returns the signature of a kind by a small key, for a script that is run for a setting.
func signBy(n int, s []byte, set vm.Setting, kind byte) []byte {
	sig, err := curve.Sign([32]byte{31: byte(n)}, digestOf(s, set, kind))
	if err != api.OK {
		panic(err)
	}
	return append(sig[:], kind)
}

func allKinds() []byte { return []byte{1, 2, 3, 0x81, 0x82, 0x83} }

// settings are such with signatures for Legacy and for Witness.
func settings() []vm.Setting {
	tx := api.Tx{Version: 2, Lock: 7}
	for i := range 3 {
		tx.In = append(tx.In, api.TxIn{Prev: api.OutPoint{Hash: api.Hash{byte(i)}, Index: uint32(i)}, Seq: uint32(i + 5)})
		tx.Out = append(tx.Out, api.TxOut{Value: int64(i + 1), Script: []byte{0x51}})
	}
	return []vm.Setting{{Tx: tx, Index: 1, Value: 9}, {Tx: tx, Index: 1, Value: 9, Witness: true}}
}

// checkOne are scripts that check one signature; the item is what they leave for a valid one.
func checkOne() []act { return []act{{"ac", "", "01"}, {"ad 52", "", "02"}} }

func TestP13_1Signature(t *testing.T) {
	for _, set := range settings() {
		for _, a := range checkOne() {
			s := hexed(a.s)
			verify := s[0] == 0xad
			for _, kind := range allKinds() {
				sig := signBy(5, s, set, kind)
				expectRun(t, s, [][]byte{sig, publicOf(5)}, set, items(a.after)...)
				expectRun(t, s, [][]byte{{7}, sig, publicOf(5)}, set, []byte{7}, items(a.after)[0])
				expectEither(t, !verify, s, [][]byte{sig, publicOf(6)}, set, nil)
				expectEither(t, !verify, s, [][]byte{sig, nil}, set, nil)
				expectEither(t, !verify, s, [][]byte{sig, publicOf(5)[:32]}, set, nil)
				expectEither(t, !verify, s, [][]byte{sig, append(publicOf(5), 0)}, set, nil)
				expectFail(t, s, [][]byte{sig}, set)
				expectFail(t, s, [][]byte{publicOf(5), sig}, set)
			}
			sig := signBy(5, s, set, 1)
			for at := range 65 {
				wrong := bytes.Clone(sig)
				wrong[at] ^= 2
				// The kind is another one that is known then.
				expectEither(t, !verify, s, [][]byte{wrong, publicOf(5)}, set, nil)
			}
			expectEither(t, !verify, s, [][]byte{nil, publicOf(5)}, set, nil)
			expectFail(t, s, [][]byte{publicOf(5)}, set)
			expectFail(t, s, nil, set)
		}
	}
}

// TestP13_1SignatureSize: a signature has no bytes or 65.
func TestP13_1SignatureSize(t *testing.T) {
	for _, set := range settings() {
		for _, a := range checkOne() {
			s := hexed(a.s)
			sig := signBy(5, s, set, 1)
			for _, wrong := range [][]byte{sig[:1], sig[:63], sig[:64], append(bytes.Clone(sig), 1), append(bytes.Clone(sig), 0), append([]byte{0}, sig...), append(bytes.Clone(sig[:64]), 1, 1), {0}, {1}, fill(520, 1)} {
				expectFail(t, s, [][]byte{wrong, publicOf(5)}, set)
				expectFail(t, s, [][]byte{wrong, nil}, set)
			}
			expectEither(t, s[0] == 0xac, s, [][]byte{append(make([]byte, 64), 1), publicOf(5)}, set, nil)
		}
	}
}

// TestP13_1Kinds: a signature of any of the 256 kinds fails unless the kind is known.
func TestP13_1Kinds(t *testing.T) {
	for _, set := range settings() {
		for k := range 256 {
			known := bytes.IndexByte(allKinds(), byte(k)) >= 0
			s := []byte{0xac}
			sig := signBy(5, s, set, byte(k))
			expectEither(t, known, s, [][]byte{sig, publicOf(5)}, set, []byte{1})
			expectEither(t, known, s, [][]byte{sig, publicOf(6)}, set, nil)
			expectEither(t, known, s, [][]byte{sig, nil}, set, nil)
			s = hexed("00 7b 51 53 7a 51 ae")
			sig = signBy(5, s, set, byte(k))
			expectEither(t, known, s, [][]byte{sig, publicOf(5)}, set, []byte{1})
			// Another known kind than the one that was signed.
			other := append(bytes.Clone(sig[:64]), 1)
			if k != 1 {
				expectRun(t, s, [][]byte{other, publicOf(5)}, set, nil)
			}
		}
	}
}

// TestP13_1WhatIsSigned: the whole script, the transaction, the input, and as Witness the amount.
func TestP13_1WhatIsSigned(t *testing.T) {
	for _, set := range settings() {
		s := hexed("51 75 ac 51 75 00 63 ac 68")
		sig := signBy(5, s, set, 1)
		stack := [][]byte{sig, publicOf(5)}
		expectRun(t, s, stack, set, []byte{1})
		expectRun(t, hexed("51 75 ac 51 75 00 63 ad 68"), stack, set, nil)
		expectRun(t, hexed("ac 51 75 00 63 ac 68"), stack, set, nil)
		expectRun(t, hexed("51 75 ac"), stack, set, nil)
		changed := set
		changed.Value++
		if set.Witness {
			expectRun(t, s, stack, changed, nil)
		} else {
			expectRun(t, s, stack, changed, []byte{1})
		}
		changed = set
		changed.Witness = !set.Witness
		expectRun(t, s, stack, changed, nil)
		changed = set
		changed.Index = 2
		expectRun(t, s, stack, changed, nil)
		changed = set
		changed.Tx.Lock++
		expectRun(t, s, stack, changed, nil)
		changed = set
		changed.Tx.Out = changed.Tx.Out[:2]
		expectRun(t, s, stack, changed, nil)
	}
}

// TestP13_1NoInput: without its input, what is signed is a digest of its own.
func TestP13_1NoInput(t *testing.T) {
	for _, set := range settings() {
		for _, i := range []int{-1, 3, math.MinInt, math.MaxInt} {
			set.Index = i
			sig, _ := curve.Sign([32]byte{31: 5}, api.Hash{1})
			for _, kind := range allKinds() {
				expectRun(t, []byte{0xac}, [][]byte{append(bytes.Clone(sig[:]), kind), publicOf(5)}, set, []byte{1})
			}
		}
	}
}

// TestP13_1Verified: 20 signatures are verified in a run, whether they are valid or not, and the 21st fails.
func TestP13_1Verified(t *testing.T) {
	for _, set := range settings() {
		for _, n := range []int{1, 19, 20, 21, 22, 40} {
			s := times(n, "6e ac 75")
			good, bad, none := signBy(5, s, set, 1), append(make([]byte, 64), 1), []byte(nil)
			expectEither(t, n <= 20, s, [][]byte{good, publicOf(5)}, set, good, publicOf(5))
			expectEither(t, n <= 20, s, [][]byte{good, publicOf(6)}, set, good, publicOf(6))
			expectEither(t, n <= 20, s, [][]byte{bad, publicOf(5)}, set, bad, publicOf(5))
			expectEither(t, n <= 20, s, [][]byte{bad, none}, set, bad, none)
			expectRun(t, s, [][]byte{none, publicOf(5)}, set, none, publicOf(5))
			verify := times(n, "6e ad")
			good = signBy(5, verify, set, 1)
			expectEither(t, n <= 20, verify, [][]byte{good, publicOf(5)}, set, good, publicOf(5))
			// Where they aren't executed they aren't verified.
			hidden := join([]byte{0x00, 0x63}, s, []byte{0x68}, times(20, "6e ac 75"))
			expectRun(t, hidden, [][]byte{bad, publicOf(5)}, set, bad, publicOf(5))
		}
	}
}

// multiScript returns a script that checks m signatures of keys, with the code behind.
func multiScript(m int, code byte, keys ...[]byte) []byte {
	s := pushOf(plainItem(int64(m)))
	for _, key := range keys {
		s = join(s, pushOf(key))
	}
	return join(s, pushOf(plainItem(int64(len(keys)))), []byte{code})
}

// pushOf returns an operation that pushes an item of at most 75 bytes.
func pushOf(item []byte) []byte { return append([]byte{byte(len(item))}, item...) }

func publics(list ...int) [][]byte {
	var keys [][]byte
	for _, n := range list {
		keys = append(keys, publicOf(n))
	}
	return keys
}

// signers returns an empty item, and the signatures by these keys; 0 makes an empty one.
func signers(s []byte, set vm.Setting, list ...int) [][]byte {
	all := [][]byte{nil}
	for i, n := range list {
		sig := []byte(nil)
		if n > 0 {
			sig = signBy(n, s, set, allKinds()[i%6])
		}
		all = append(all, sig)
	}
	return all
}

// TestP13_1Order: signatures are valid in the order of their keys only.
func TestP13_1Order(t *testing.T) {
	for _, set := range settings() {
		for _, c := range []struct {
			keys, by []int
			want     bool
		}{
			{[]int{1}, []int{1}, true}, {[]int{1}, []int{2}, false}, {[]int{1}, []int{0}, false},
			{[]int{1, 2, 3}, []int{1}, true}, {[]int{1, 2, 3}, []int{2}, true}, {[]int{1, 2, 3}, []int{3}, true}, {[]int{1, 2, 3}, []int{4}, false},
			{[]int{1, 2, 3}, []int{1, 2}, true}, {[]int{1, 2, 3}, []int{1, 3}, true}, {[]int{1, 2, 3}, []int{2, 3}, true},
			{[]int{1, 2, 3}, []int{2, 1}, false}, {[]int{1, 2, 3}, []int{3, 1}, false}, {[]int{1, 2, 3}, []int{3, 2}, false},
			{[]int{1, 2, 3}, []int{1, 1}, false}, {[]int{1, 2, 3}, []int{3, 3}, false}, {[]int{1, 1, 2}, []int{1, 1}, true}, {[]int{1, 2, 1}, []int{1, 1}, true}, {[]int{1, 2, 1}, []int{2, 1}, true}, {[]int{1, 2, 1}, []int{1, 2}, true},
			{[]int{1, 2, 3}, []int{1, 2, 3}, true}, {[]int{1, 2, 3}, []int{1, 3, 2}, false}, {[]int{1, 2, 3}, []int{3, 2, 1}, false}, {[]int{1, 2, 3}, []int{1, 2, 4}, false},
			{[]int{1, 2, 3}, []int{0, 1}, false}, {[]int{1, 2, 3}, []int{1, 0}, false}, {[]int{1, 2, 3}, []int{0, 0}, false}, {[]int{1, 2, 3}, []int{0}, false}, {[]int{1, 2, 3}, []int{1, 0, 3}, false},
			{[]int{1, 2, 3}, nil, true}, {nil, nil, true},
			{[]int{4, 1, 2, 3}, []int{4, 3}, true}, {[]int{4, 1, 2, 3}, []int{1, 2, 3}, true}, {[]int{4, 1, 2, 3}, []int{4, 1, 2}, true}, {[]int{4, 1, 2, 3}, []int{4, 1, 2, 3}, true},
		} {
			s := multiScript(len(c.by), 0xae, publics(c.keys...)...)
			expectRun(t, s, signers(s, set, c.by...), set, oneIf(c.want))
			expectRun(t, s, append([][]byte{{7}}, signers(s, set, c.by...)...), set, []byte{7}, oneIf(c.want))
			s = multiScript(len(c.by), 0xaf, publics(c.keys...)...)
			expectEither(t, c.want, s, signers(s, set, c.by...), set)
		}
	}
}

// TestP13_1MultiNumbers: n of -1, 0, 20 and 21; m of -1, 0, n and n + 1.
func TestP13_1MultiNumbers(t *testing.T) {
	for n := int64(-2); n <= 22; n++ {
		for _, m := range []int64{-2, -1, 0, 1, n - 1, n, n + 1, n + 2, 20, 21} {
			// Empty signatures need no keys, and there are more items than are popped.
			stack := slices.Concat(make([][]byte, 30), [][]byte{plainItem(m)}, slices.Repeat(items("09"), int(max(n, 0))), [][]byte{plainItem(n)})
			want := [][]byte(nil)
			succeeds := n >= 0 && n <= 20 && m >= 0 && m <= n
			if succeeds {
				want = append(make([][]byte, 30-1-m), oneIf(m == 0))
			}
			expectEither(t, succeeds, []byte{0xae}, stack, bare(), want...)
			if succeeds {
				want = want[:len(want)-1]
			}
			expectEither(t, succeeds && m == 0, []byte{0xaf}, stack, bare(), want...)
		}
	}
	for _, wrong := range notNumbers() {
		expectFail(t, []byte{0xae}, [][]byte{nil, nil, wrong}, bare())
		expectFail(t, []byte{0xae}, [][]byte{nil, wrong, nil}, bare())
		expectFail(t, []byte{0xae}, [][]byte{nil, wrong, {9}, {9}, {2}}, bare())
	}
	for _, wrong := range items("14000000 15000000 ffffffff ffffff7f 0001 1400") {
		expectFail(t, []byte{0xae}, append(many(50), nil, wrong), bare())
		expectFail(t, []byte{0xae}, append(many(50), nil, wrong, nil), bare())
	}
}

// TestP13_1MultiItems: what m of n pops must be there, and the lowest item be empty.
func TestP13_1MultiItems(t *testing.T) {
	for _, set := range settings() {
		s := multiScript(2, 0xae, publics(1, 2, 3)...)
		verify := multiScript(2, 0xaf, publics(1, 2, 3)...)
		for _, c := range [][]byte{s, verify} {
			stack := signers(c, set, 1, 3)
			for _, lowest := range items("00 01 80 0000") {
				expectFail(t, c, append([][]byte{lowest}, stack[1:]...), set)
				expectFail(t, c, append([][]byte{nil, lowest}, stack[1:]...), set)
			}
			expectFail(t, c, stack[1:], set)
			expectFail(t, c, stack[2:], set)
			expectFail(t, c, nil, set)
		}
		for _, stack := range []string{". 01", ". . 01", ". 02", ". . . 01 09", "09 . 01", ". 01 09", "01 . .", "01 . 09 01", ". .", ".", "", "01 09 01"} {
			expectFail(t, []byte{0xae}, items(stack), set)
			expectFail(t, []byte{0xaf}, items(stack), set)
		}
	}
}

// TestP13_1MultiForms: a signature of a wrong form fails as soon as it is looked at; what isn't looked at can't fail.
func TestP13_1MultiForms(t *testing.T) {
	for _, set := range settings() {
		s := multiScript(2, 0xae, publics(1, 2, 3)...)
		good := signers(s, set, 1, 2, 3)
		for _, wrong := range [][]byte{{1}, make([]byte, 64), make([]byte, 66), append(make([]byte, 64), 0), append(make([]byte, 64), 4), append(make([]byte, 64), 0x80)} {
			expectFail(t, s, [][]byte{nil, good[1], wrong}, set)
			expectFail(t, s, [][]byte{nil, wrong, good[3]}, set)
			expectFail(t, s, [][]byte{nil, wrong, good[2]}, set)
			// Empty signatures leave fewer keys than signatures, before the first one is looked at.
			expectRun(t, s, [][]byte{nil, wrong, nil}, set, nil)
			expectRun(t, s, [][]byte{nil, wrong, signBy(4, s, set, 1)}, set, nil)
			all := multiScript(3, 0xae, publics(1, 2, 3)...)
			expectRun(t, all, [][]byte{nil, nil, wrong, signBy(2, all, set, 1)}, set, nil)
			expectFail(t, all, [][]byte{nil, nil, wrong, signBy(3, all, set, 1)}, set)
		}
	}
}

// TestP13_1MultiVerified: each signature that is held against a key counts as verified.
func TestP13_1MultiVerified(t *testing.T) {
	// Of n keys the first one signed, so that all are tried.
	tried := func(n int, set vm.Setting, behind []byte) ([]byte, [][]byte) {
		list := []int{1}
		for i := range n - 1 {
			list = append(list, i+2)
		}
		s := join(multiScript(1, 0xaf, publics(list...)...), behind)
		return s, signers(s, set, 1)
	}
	for _, set := range settings() {
		bad := append(make([]byte, 64), 1)
		for _, n := range []int{1, 2, 10, 19, 20} {
			for _, more := range []int{0, 1, 18, 19, 20} {
				s, stack := tried(n, set, times(more, "6e ac 75"))
				expectEither(t, n+more <= 20, s, slices.Concat([][]byte{bad, publicOf(1)}, stack), set, bad, publicOf(1))
				expectRun(t, s, slices.Concat([][]byte{nil, publicOf(1)}, stack), set, nil, publicOf(1))
			}
		}
		// The last one signed: one is tried.
		s := join(multiScript(1, 0xaf, publics(1, 2, 3, 4, 5)...), times(19, "6e ac 75"))
		expectRun(t, s, slices.Concat([][]byte{bad, nil}, signers(s, set, 5)), set, bad, nil)
		expectFail(t, s, slices.Concat([][]byte{bad, nil}, signers(s, set, 4)), set)
		// The last one of three is by another key: one is tried, and then two keys remain for three.
		s = join(multiScript(3, 0xae, publics(1, 2, 3)...), []byte{0x75}, times(19, "6e ac 75"))
		expectRun(t, s, slices.Concat([][]byte{bad, nil}, signers(s, set, 1, 1, 2)), set, bad, nil)
		s = append(s, 0x6e, 0xac, 0x75)
		expectFail(t, s, slices.Concat([][]byte{bad, nil}, signers(s, set, 1, 1, 2)), set)
		// Empty ones are tried with all keys, and count nothing.
		s = join(multiScript(1, 0xae, publics(1, 2, 3, 4, 5)...), []byte{0x75}, times(20, "6e ac 75"))
		expectRun(t, s, slices.Concat([][]byte{bad, nil}, signers(s, set, 0)), set, bad, nil)
	}
}
