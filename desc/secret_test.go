package desc_test

import (
	"bytes"
	"math"
	"slices"
	"testing"

	"strongbox/api"
	"strongbox/curve"
	"strongbox/desc"
)

// pubAt returns a public key that a key has at an index.
func pubAt(t *testing.T, k plainKey, index uint32) []byte {
	t.Helper()
	pub, _, ok := k.at(index)
	if !ok {
		t.Fatalf("%s has nothing at %d", k.text, index)
	}
	return pub
}

func secretAt(k plainKey, index uint32) [32]byte {
	_, secret, _ := k.at(index)
	return [32]byte(secret)
}

func TestP20_3Secret(t *testing.T) {
	a, b := masterOf(1), masterOf(2)
	keys := []plainKey{aloneKey(pubOf(2)), treeKey(a, "'", "*", 1), treeKey(shownOf(b), "'", "*"), treeKey(b, "'", "*'", hard+3), treeKey(a, "'", "")}
	for _, form := range forms() {
		plain := plainDesc{form: form, m: 2, keys: keys}
		if !isMulti(form) {
			plain.keys = keys[1:2]
		}
		d := mustParse(t, plain.text())
		for _, index := range []uint32{0, 1, 77, hard - 1} {
			for _, k := range plain.keys {
				_, secret, _ := k.at(index)
				var want [32]byte
				copy(want[:], secret)
				expectSecret(t, d, index, pubAt(t, k, index), want, secret != nil)
			}
			expectSecret(t, d, index, pubAt(t, keys[1], index+1&(hard-1)), [32]byte{}, false)
		}
	}
}

// TestP20_3NoKeys asks for what is no public key of the descriptor.
func TestP20_3NoKeys(t *testing.T) {
	k := treeKey(masterOf(1), "'", "*")
	d := mustParse(t, "wpkh("+k.text+")")
	pub := pubAt(t, k, 5)
	want := secretAt(k, 5)
	expectSecret(t, d, 5, pub, want, true)
	other := slices.Clone(pub)
	other[0] ^= 1
	for _, no := range [][]byte{nil, {}, {0}, pub[:32], pub[1:], append(slices.Clone(pub), 0), append([]byte{0}, pub...), other, make([]byte, 33), want[:], append([]byte{0}, want[:]...), bytes.Repeat([]byte{255}, 100), unhex(pubOf(1)), pubAt(t, k, 4)} {
		expectSecret(t, d, 5, no, [32]byte{}, false)
	}
	alone := mustParse(t, "multi(1,"+pubOf(2)+","+pubOf(3)+")")
	expectSecret(t, alone, 0, unhex(pubOf(2)), [32]byte{}, false)
	expectSecret(t, alone, 0, unhex(pubOf(3)), [32]byte{}, false)
}

// TestP20_3Index: from Hard on there is no index; without one, each below has the same.
func TestP20_3Index(t *testing.T) {
	for _, k := range []plainKey{treeKey(masterOf(1), "'", "*"), treeKey(masterOf(1), "'", "*'"), treeKey(masterOf(1), "'", "", 3)} {
		d := mustParse(t, "pkh("+k.text+")")
		for _, index := range []uint32{0, 1, 1000, hard - 1} {
			pub := pubAt(t, k, index)
			expectSecret(t, d, index, pub, secretAt(k, index), true)
			expectSecret(t, d, index+hard, pub, [32]byte{}, false)
		}
		soft := treeKey(masterOf(1), "'", "", 7)
		firm := treeKey(masterOf(1), "'", "", hard+7)
		for _, index := range []uint32{hard, hard + 7, math.MaxUint32} {
			expectSecret(t, d, index, pubAt(t, soft, 0), [32]byte{}, false)
			expectSecret(t, d, index, pubAt(t, firm, 0), [32]byte{}, false)
			expectSecret(t, d, index, pubAt(t, k, 7), [32]byte{}, false)
		}
	}
}

// TestP20_3First: a public key that several have is found with the one that is private.
func TestP20_3First(t *testing.T) {
	a := masterOf(1)
	child, _ := a.Walk(1, 2)
	pub := pubAt(t, treeKey(a, "'", "", 1, 2, 9), 0)
	same := []plainKey{
		{text: hexed(pub), written: hexed(pub), pub: pub},
		treeKey(shownOf(a), "'", "*", 1, 2),
		treeKey(shownOf(child), "'", "", 9),
	}
	private := []plainKey{treeKey(a, "'", "*", 1, 2), treeKey(child, "'", "*"), treeKey(child, "'", "", 9), treeKey(a, "'", "", 1, 2, 9)}
	for _, k := range private {
		for turn := range 4 {
			keys := slices.Insert(slices.Clone(same), turn, k)
			d := mustParse(t, plainDesc{form: "sh-multi", m: 4, keys: keys}.text())
			expectSecret(t, d, 9, pub, secretAt(k, 9), true)
			if x, err := d.At(9); err != api.OK || !slices.EqualFunc(x.Keys, [][]byte{pub, pub, pub, pub}, bytes.Equal) {
				t.Errorf("Keys %x, error %d", x.Keys, err)
			}
		}
	}
	d := mustParse(t, plainDesc{form: "sh-multi", m: 1, keys: same}.text())
	expectSecret(t, d, 9, pub, [32]byte{}, false)
	d = mustParse(t, plainDesc{form: "sh-multi", m: 1, keys: private}.text())
	expectSecret(t, d, 9, pub, secretAt(private[3], 0), true)
}

// TestP20_3NoChild: where one key leads nowhere, the others still have their secrets.
func TestP20_3NoChild(t *testing.T) {
	good := treeKey(masterOf(2), "'", "*")
	for _, k := range lost() {
		for _, keys := range [][]plainKey{{k, good}, {good, k}} {
			d := mustParse(t, plainDesc{form: "multi", m: 1, keys: keys}.text())
			expectSecret(t, d, 3, pubAt(t, good, 3), secretAt(good, 3), true)
			expectSecret(t, d, 3, make([]byte, 33), [32]byte{}, false)
			expectSecret(t, d, 3, nil, [32]byte{}, false)
			expectAt(t, d, 3, desc.Derived{}, api.ErrNone)
		}
	}
}

// TestP20_3Public: what Public replaces has no secret any more, and what it leaves still has it.
func TestP20_3Public(t *testing.T) {
	soft, firm := treeKey(masterOf(1), "'", "*", hard+1, 2), treeKey(masterOf(2), "'", "*'")
	d := mustParse(t, plainDesc{form: "wsh-multi", m: 1, keys: []plainKey{soft, firm}}.text())
	u := d.Public()
	expectSecret(t, d, 4, pubAt(t, soft, 4), secretAt(soft, 4), true)
	expectSecret(t, u, 4, pubAt(t, soft, 4), [32]byte{}, false)
	expectSecret(t, u, 4, pubAt(t, firm, 4), secretAt(firm, 4), true)
	if !curve.Valid(secretAt(firm, 4)) {
		t.Errorf("the secret is no key")
	}
}
