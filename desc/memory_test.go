package desc_test

import (
	"bytes"
	"slices"
	"testing"

	"strongbox/api"
	"strongbox/desc"
)

// lists returns all bytes of what a descriptor has.
func lists(x desc.Derived) [][]byte { return slices.Concat([][]byte{x.Script}, x.Inner, x.Keys) }

// spoil overwrites all memory of an answer, with its spare capacity.
func spoil(x desc.Derived) {
	for _, b := range lists(x) {
		spoilBytes(b)
	}
	clear(x.Inner[:cap(x.Inner)])
	clear(x.Keys[:cap(x.Keys)])
}

func spoilBytes(b []byte) {
	for i := range b[:cap(b)] {
		b[:cap(b)][i] ^= 255
	}
}

// copied returns an answer in other memory.
func copied(x desc.Derived) desc.Derived {
	y := desc.Derived{Script: bytes.Clone(x.Script)}
	for _, b := range x.Inner {
		y.Inner = append(y.Inner, bytes.Clone(b))
	}
	for _, b := range x.Keys {
		y.Keys = append(y.Keys, bytes.Clone(b))
	}
	return y
}

// TestP20_4Answers: no answer shares memory with another one, or with the descriptor.
func TestP20_4Answers(t *testing.T) {
	for _, form := range forms() {
		for _, plain := range some(form) {
			d := mustParse(t, plain.text())
			u := d.Public()
			first, _ := d.At(6)
			second, _ := d.At(6)
			shown, _ := u.At(6)
			want := copied(second)
			spoil(first)
			if !sameDerived(second, want) || !sameDerived(shown, want) {
				t.Errorf("%s: an answer shares memory with another one", d.Text())
			}
			spoil(shown)
			expectAt(t, d, 6, want, api.OK)
			expectAt(t, u, 6, want, api.OK)
			if d.Text() != plain.written() {
				t.Errorf("%s: Text changed", d.Text())
			}
		}
	}
}

// TestP20_4Parts: no two lists of one answer share memory.
func TestP20_4Parts(t *testing.T) {
	for _, form := range forms() {
		for _, plain := range some(form) {
			d := mustParse(t, plain.text())
			x, _ := d.At(6)
			for i := range lists(x) {
				want := lists(copied(x))
				spoilBytes(lists(x)[i])
				for j, b := range lists(x) {
					if j != i && !bytes.Equal(b, want[j]) {
						t.Errorf("%s: the lists %d and %d share memory", d.Text(), i, j)
					}
				}
			}
			want := copied(x)
			_, _ = append(x.Inner, []byte("more")), append(x.Keys, []byte("more"))
			if !sameDerived(x, want) {
				t.Errorf("%s: Inner and Keys share memory", d.Text())
			}
		}
	}
}

// TestP20_4SameKeys: keys that are the same have memory of their own.
func TestP20_4SameKeys(t *testing.T) {
	d := mustParse(t, "sh(multi(1,"+pubOf(2)+","+pubOf(2)+"))")
	x, _ := d.At(0)
	spoilBytes(x.Keys[0])
	if !bytes.Equal(x.Keys[1], unhex(pubOf(2))) {
		t.Errorf("two Keys share memory")
	}
	expectAt(t, d, 0, desc.Derived{Script: x.Script, Inner: x.Inner, Keys: [][]byte{unhex(pubOf(2)), unhex(pubOf(2))}}, api.OK)
}

// TestP20_4Arguments: Secret changes and keeps nothing.
func TestP20_4Arguments(t *testing.T) {
	k := treeKey(masterOf(1), "'", "*")
	d := mustParse(t, "wpkh("+k.text+")")
	pub := pubAt(t, k, 5)
	room := append(slices.Clone(pub), "behind it"...)
	was := slices.Clone(room)
	for n := range len(room) + 1 {
		if n == 33 {
			expectSecret(t, d, 5, room[:n], secretAt(k, 5), true)
		} else {
			expectSecret(t, d, 5, room[:n], [32]byte{}, false)
		}
	}
	if !bytes.Equal(room, was) {
		t.Errorf("Secret changed its argument")
	}
	spoilBytes(room)
	expectSecret(t, d, 5, pub, secretAt(k, 5), true)
}

// TestP20_4Objects: what is asked of one descriptor changes neither it nor another one.
func TestP20_4Objects(t *testing.T) {
	plain := plainDesc{form: "wsh-sortedmulti", m: 2, keys: someKeys()}
	d, e := mustParse(t, plain.text()), mustParse(t, plain.text())
	for _, index := range indices() {
		x, _ := d.At(index)
		spoil(x)
		d.Public().At(index)
		d.Secret(index, unhex(pubOf(2)))
	}
	for _, one := range []*desc.Desc{d, e} {
		if one.Text() != plain.written() {
			t.Errorf("%s: Text changed", one.Text())
		}
		want, err := plain.at(8)
		expectAt(t, one, 8, want, err)
	}
}
