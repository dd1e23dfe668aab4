package desc_test

import (
	"bytes"
	"math"
	"slices"
	"testing"

	"strongbox/api"
	"strongbox/check"
	"strongbox/curve"
	"strongbox/desc"
	"strongbox/hdkey"
)

// Master keys, and keys below them, of BIP 32's own test vectors.
const (
	oneMaster = "xprv9s21ZrQH143K3QTDL4LXw2F7HEK3wJUD2nW2nRk4stbPy6cq3jPPqjiChkVvvNKmPGJxWUtg6LnF5kejMRNNU3TGtRBeJgk33yuGBxrMPHi"
	oneHard   = "xprv9uHRZZhk6KAJC1avXpDAp4MDc3sQKNxDiPvvkX8Br5ngLNv1TxvUxt4cV1rGL5hj6KCesnDYUhd7oWgT11eZG7XnxHrnYeSvkzY7d2bhkJ7"
	twoMaster = "xprv9s21ZrQH143K31xYSDQpPDxsXRTUcvj2iNHm5NUtrGiGG5e2DtALGdso3pGz6ssrdK4PFmM8NSpSBHNqPqm55Qn3LqFtT2emdEXVYsCzC2U"
	twoChild  = "xprv9vHkqa6EV4sPZHYqZznhT2NPtPCjKuDKGY38FBWLvgaDx45zo9WQRUT3dKYnjwih2yJD9mkrocEZXo1ex8G81dwSM1fwqWpWkeS3v86pgKt"
	twoDeep   = "xprvA1RpRA33e1JQ7ifknakTFpgNXPmW2YvmhqLQYMmrj4xJXXWYpDPS3xz7iAxn8L39njGVyuoseXzU6rcxFLJ8HFsTjSyQbLYnMpCqE2VbFWc"
	three     = "xprv9uPDJpEQgRQfDcW7BkF7eTya6RPxXeJCqCJGHuCJ4GiRVLzkTXBAJMu2qaMWPrS7AANYqdq6vcBcBUdJCVVFceUvJFjaPdGZ2y9WACViL4L"

	oneMasterShown = "xpub661MyMwAqRbcFtXgS5sYJABqqG9YLmC4Q1Rdap9gSE8NqtwybGhePY2gZ29ESFjqJoCu1Rupje8YtGqsefD265TMg7usUDFdp6W1EGMcet8"
	oneThirdShown  = "xpub6D4BDPcP2GT577Vvch3R8wDkScZWzQzMMUm3PWbmWvVJrZwQY4VUNgqFJPMM3No2dFDFGTsxxpG5uJh7n7epu4trkrX7x7DogT5Uv6fcLW5"
	oneLastShown   = "xpub6H1LXWLaKsWFhvm6RVpEL9P4KfRZSW7abD2ttkWP3SSQvnyA8FSVqNTEcYFgJS2UaFcxupHiYkro49S8yGasTvXEYBVPamhGW6cFJodrTHy"
)

// TestP20_2Known has scripts that others published.
func TestP20_2Known(t *testing.T) {
	for _, c := range []struct {
		s    string
		want []string
	}{
		{"pkh(03a34b99f22c790c4e36b2b3c2c35a36db06226e41c692fc82b8b56ac1c540c5bd)", []string{"76a9149a1c78a507689f6f54b847ad1cef1e614ee23f1e88ac"}},
		{"wpkh(03a34b99f22c790c4e36b2b3c2c35a36db06226e41c692fc82b8b56ac1c540c5bd)", []string{"00149a1c78a507689f6f54b847ad1cef1e614ee23f1e"}},
		{"sh(wpkh(" + oneMaster + "/10/20/30/40/*'))", []string{"a9149a4d9901d6af519b2a23d4a2f51650fcba87ce7b87", "a914bed59fc0024fae941d6e20a3b44a109ae740129287", "a9148483aa1116eb9c05c482a72bada4b1db24af654387"}},
		{"wpkh(" + twoChild + "/1/2/*)", []string{"0014326b2249e3a25d5dc60935f044ee835d090ba859", "0014af0bd98abc2f2cae66e36896a39ffe2d32984fb7", "00141fa798efd1cbf95cebf912c031b8a4a6e9fb9f27"}},
		{"pkh(" + twoMaster + "/2147483647'/0)", []string{"76a914ebdc90806a9c4356c1c88e42216611e1cb4c1c1788ac"}},
		{"sh(multi(2," + twoDeep + "," + three + "/0))", []string{"a91445a9a622a8b0a1269944be477640eedc447bbd8487"}},
		{"wsh(multi(2," + twoMaster + "/2147483647'/0," + twoChild + "/1/2/*," + oneMaster + "/10/20/30/40/*'))", []string{
			"0020b92623201f3bb7c3771d45b2ad1d0351ea8fbf8cfe0a0e570264e1075fa1948f", "002036a08bbe4923af41cf4316817c93b8d37e2f635dd25cfff06bd50df6ae7ea203", "0020a96e7ab4607ca6b261bfe3245ffda9c746b28d3f59e83d34820ec0e2b36c139c"}},
		{"sortedmulti(2,02ff12471208c14bd580709cb2358d98975247d8765f92bc25eab3b2763ed605f8,02fe6f0a5a297eb38c391581c4413e084773ea23954d93f7753db7dc0adc188b2f)", []string{
			"522102fe6f0a5a297eb38c391581c4413e084773ea23954d93f7753db7dc0adc188b2f2102ff12471208c14bd580709cb2358d98975247d8765f92bc25eab3b2763ed605f852ae"}},
	} {
		d := mustParse(t, c.s)
		for i, want := range c.want {
			if x, err := d.At(uint32(i)); !bytes.Equal(x.Script, unhex(want)) || err != api.OK {
				t.Errorf("%s: At(%d) = %x, error %d; want %s", c.s, i, x.Script, err, want)
			}
		}
	}
}

// indices returns indices at the edges, and any others.
func indices() []uint32 {
	return []uint32{0, 1, 7, 5000, hard - 1, hard, hard + 1, math.MaxUint32}
}

// TestP20_2At has all forms with keys of all kinds.
func TestP20_2At(t *testing.T) {
	for _, form := range forms() {
		for i, plain := range some(form) {
			// Each index with one of them.
			expectPlain(t, plain.text(), plain, 7, indices()[i%len(indices())])
		}
	}
}

// TestP20_2Parts tells what is in Inner and Keys, form by form.
func TestP20_2Parts(t *testing.T) {
	// The bytes of b are the greatest ones.
	a, b, c := pubOf(2), pubOf(3), pubOf(4)
	pair, sorted, keys := "1,"+b+","+c, "2,"+c+","+b+","+a, []string{c, b, a}
	multi := unhex("51" + "21" + b + "21" + c + "52ae")
	sortedMulti := unhex("52" + "21" + a + "21" + c + "21" + b + "53ae")
	for _, x := range []struct {
		s     string
		inner [][]byte
		keys  []string
	}{
		{"pkh(" + a + ")", [][]byte{unhex(a)}, []string{a}},
		{"wpkh(" + a + ")", [][]byte{unhex(a)}, []string{a}},
		{"sh(wpkh(" + a + "))", [][]byte{unhex(a), join("0014", hash160(unhex(a)), "")}, []string{a}},
		{"multi(" + pair + ")", nil, []string{b, c}},
		{"sh(multi(" + pair + "))", [][]byte{multi}, []string{b, c}},
		{"wsh(multi(" + pair + "))", [][]byte{multi}, []string{b, c}},
		{"sh(wsh(multi(" + pair + ")))", [][]byte{multi, nil}, []string{b, c}},
		{"sortedmulti(" + sorted + ")", nil, keys},
		{"wsh(sortedmulti(" + sorted + "))", [][]byte{sortedMulti}, keys},
		{"sh(wsh(sortedmulti(" + sorted + ")))", [][]byte{sortedMulti, nil}, keys},
	} {
		got, err := mustParse(t, x.s).At(3)
		if err != api.OK || len(got.Inner) != len(x.inner) || len(got.Keys) != len(x.keys) {
			t.Fatalf("%s: %x, error %d", x.s, got, err)
		}
		for i, want := range x.inner {
			if want != nil && !bytes.Equal(got.Inner[i], want) {
				t.Errorf("%s: Inner %x; want %x", x.s, got.Inner[i], want)
			}
		}
		for i, want := range x.keys {
			if !bytes.Equal(got.Keys[i], unhex(want)) {
				t.Errorf("%s: Keys %x; want %s", x.s, got.Keys[i], want)
			}
		}
	}
}

// TestP20_2Sorted: sorted keys lead to the same script in any order, but Keys remain as they were written.
func TestP20_2Sorted(t *testing.T) {
	var keys []plainKey
	for n := range byte(5) {
		keys = append(keys, aloneKey(pubOf(n+1)))
	}
	keys = append(keys, treeKey(masterOf(1), "'", "*", 1), treeKey(masterOf(1), "'", "*", 1))
	var script []byte
	for turn := range keys {
		plain := plainDesc{form: "wsh-sortedmulti", m: 3, keys: append(slices.Clone(keys[turn:]), keys[:turn]...)}
		x, err := expectPlain(t, plain.text(), plain, 9).At(9)
		if script == nil {
			script = x.Script
		}
		if err != api.OK || !bytes.Equal(x.Script, script) {
			t.Errorf("another order: %x; want %x", x.Script, script)
		}
		plain.form = "wsh-multi"
		if y, _ := expectPlain(t, plain.text(), plain, 9).At(9); bytes.Equal(y.Script, script) {
			t.Errorf("keys that should not be sorted are")
		}
	}
}

// TestP20_2NotRanged: without an index, every index has the same, but is checked.
func TestP20_2NotRanged(t *testing.T) {
	a := masterOf(1)
	for _, plain := range []plainDesc{
		{form: "pkh", keys: []plainKey{aloneKey(pubOf(2))}},
		{form: "wpkh", keys: []plainKey{treeKey(a, "'", "", 1, hard+2)}},
		{form: "multi", m: 1, keys: []plainKey{treeKey(shownOf(a), "'", "", 1), treeKey(a, "'", "")}},
	} {
		d := expectPlain(t, plain.text(), plain)
		want, err := plain.at(0)
		for _, index := range []uint32{0, 1, 2, 1000, hard - 1} {
			expectAt(t, d, index, want, err)
		}
		for _, index := range []uint32{hard, hard + 1, math.MaxUint32} {
			expectAt(t, d, index, desc.Derived{}, api.ErrArg)
		}
	}
}

// TestP20_2Ranged: an index of any key is one of the descriptor, and leads to other scripts.
func TestP20_2Ranged(t *testing.T) {
	for at := range 3 {
		for _, index := range []string{"*", "*'"} {
			plain := plainDesc{form: "sh-multi", m: 2, keys: []plainKey{aloneKey(pubOf(2)), aloneKey(pubOf(3)), aloneKey(pubOf(4))}}
			plain.keys[at] = treeKey(masterOf(2), "'", index, 5)
			d := expectPlain(t, plain.text(), plain, indices()...)
			x, _ := d.At(1)
			y, _ := d.At(2)
			if !d.Ranged() || bytes.Equal(x.Script, y.Script) {
				t.Errorf("%s: Ranged %t", d.Text(), d.Ranged())
			}
		}
	}
}

// deepest returns a master key's key as if it were that deep.
func deepest(n int, depth byte) hdkey.Key {
	k := masterOf(n)
	k.Depth = depth
	return k
}

// lost returns keys without any child where their steps, or their index, lead.
func lost() []plainKey {
	return []plainKey{
		treeKey(deepest(1, 255), "'", "", 0),
		treeKey(deepest(1, 255), "'", "", hard),
		treeKey(deepest(1, 255), "'", "*"),
		treeKey(deepest(1, 255), "'", "*'"),
		treeKey(shownOf(deepest(1, 255)), "'", "", 0),
		treeKey(shownOf(deepest(1, 255)), "'", "*"),
		treeKey(deepest(1, 254), "'", "*", 3),
		treeKey(deepest(1, 254), "'", "*'", hard+3),
		treeKey(deepest(1, 254), "'", "", 3, hard+4),
		treeKey(deepest(1, 254), "'", "", hard+3, 4),
		treeKey(shownOf(deepest(1, 254)), "'", "*", 3),
		treeKey(shownOf(deepest(1, 240)), "'", "", make([]uint32, 16)...),
		treeKey(deepest(1, 240), "'", "*", make([]uint32, 20)...),
	}
}

// reached returns keys whose steps lead just as far as there are children.
func reached() []plainKey {
	return []plainKey{
		treeKey(deepest(1, 255), "'", ""),
		treeKey(shownOf(deepest(1, 255)), "'", ""),
		treeKey(deepest(1, 254), "'", "*"),
		treeKey(deepest(1, 254), "'", "*'"),
		treeKey(deepest(1, 254), "'", "", hard),
		treeKey(shownOf(deepest(1, 254)), "'", "", 4),
		treeKey(shownOf(deepest(1, 240)), "'", "*", make([]uint32, 14)...),
	}
}

// TestP20_2NoChild: a descriptor whose steps lead nowhere is one, but has nothing.
func TestP20_2NoChild(t *testing.T) {
	good := aloneKey(pubOf(2))
	for _, k := range lost() {
		for _, plain := range []plainDesc{
			{form: "sh-wpkh", keys: []plainKey{k}},
			{form: "wsh-multi", m: 1, keys: []plainKey{good, k}},
			{form: "sortedmulti", m: 1, keys: []plainKey{k, good, good}},
		} {
			d := expectPlain(t, plain.text(), plain, 7)
			expectAt(t, d, 0, desc.Derived{}, api.ErrNone)
			expectAt(t, d, hard-1, desc.Derived{}, api.ErrNone)
			expectAt(t, d, hard, desc.Derived{}, api.ErrArg)
			expectPublic(t, d, plain, 7)
		}
	}
	for _, k := range reached() {
		plain := plainDesc{form: "pkh", keys: []plainKey{k}}
		d := expectPlain(t, plain.text(), plain, 7, hard-1)
		if x, err := d.At(7); err != api.OK || len(x.Script) == 0 {
			t.Errorf("%s: error %d", d.Text(), err)
		}
		expectPublic(t, d, plain, 7)
	}
}

// public returns what Public makes of a key.
func (k plainKey) public() plainKey {
	if k.pub != nil || !k.root.Private() || k.index == "*'" {
		return k
	}
	done := 0
	for i, n := range k.steps {
		if n >= hard {
			done = i + 1
		}
	}
	root, err := k.root.Walk(k.steps[:done]...)
	if err != api.OK {
		return k
	}
	return treeKey(shownOf(root), "'", k.index, k.steps[done:]...)
}

// expectPublic holds the Public of a descriptor against a plain one; it has the same scripts.
func expectPublic(t *testing.T, d *desc.Desc, plain plainDesc, indices ...uint32) {
	t.Helper()
	was := d.Text()
	u := d.Public()
	shown := plainDesc{form: plain.form, m: plain.m}
	for _, k := range plain.keys {
		shown.keys = append(shown.keys, k.public())
	}
	if u.Text() != shown.written() || u.Form() != d.Form() || u.Ranged() != d.Ranged() || d.Text() != was {
		t.Errorf("%s: Public %s; want %s", was, u.Text(), shown.written())
	}
	if v := u.Public(); v.Text() != u.Text() {
		t.Errorf("%s: Public of Public %s", u.Text(), v.Text())
	}
	expectPlain(t, u.Text(), shown)
	for _, index := range indices {
		want, err := d.At(index)
		expectAt(t, u, index, want, err)
		expectAt(t, mustParse(t, u.Text()), index, want, err)
		expectSecrets(t, u, shown, index)
	}
}

func TestP20_2Public(t *testing.T) {
	for _, form := range forms() {
		for i, plain := range some(form) {
			expectPublic(t, mustParse(t, plain.text()), plain, indices()[i%len(indices())])
		}
	}
}

// TestP20_2PublicKeys tells, key by key, what becomes of it.
func TestP20_2PublicKeys(t *testing.T) {
	pub := pubOf(2)
	far := deepest(1, 254)
	farChild, _ := far.Step(hard + 3)
	for k, want := range map[string]string{
		pub:                            pub,
		oneMaster:                      oneMasterShown,
		oneMaster + "/*":               oneMasterShown + "/*",
		oneMaster + "/1/2/*":           oneMasterShown + "/1/2/*",
		oneMaster + "/0'/1/2h":         oneThirdShown,
		oneMaster + "/0'/1/2H/*":       oneThirdShown + "/*",
		oneMaster + "/0'/1/2'/2/3/*":   oneThirdShown + "/2/3/*",
		oneHard + "/1/2'/7":            oneThirdShown + "/7",
		oneMasterShown + "/1/*":        oneMasterShown + "/1/*",
		oneMasterShown:                 oneMasterShown,
		oneMaster + "/*'":              oneMaster + "/*'",
		oneMaster + "/*h":              oneMaster + "/*'",
		oneMaster + "/0'/1/*H":         oneMaster + "/0'/1/*'",
		oneMaster + "/1/*h":            oneMaster + "/1/*'",
		far.Text() + "/3'/*":           shownOf(farChild).Text() + "/*",
		far.Text() + "/3'/4'/*":        far.Text() + "/3'/4'/*",
		far.Text() + "/3/4'":           far.Text() + "/3/4'",
		far.Text() + "/3'/4":           shownOf(farChild).Text() + "/4",
		far.Text() + "/3/4":            shownOf(far).Text() + "/3/4",
		far.Text() + "/3'/4'/5/6":      far.Text() + "/3'/4'/5/6",
		deepest(1, 255).Text():         shownOf(deepest(1, 255)).Text(),
		deepest(1, 255).Text() + "/0":  shownOf(deepest(1, 255)).Text() + "/0",
		deepest(1, 255).Text() + "/0h": deepest(1, 255).Text() + "/0'",
	} {
		if got := mustParse(t, "wpkh("+k+")").Public().Text(); got != summed("wpkh("+want+")") {
			t.Errorf("%s: %s; want %s", k, got, want)
		}
		s := "sh(multi(1," + pub + "," + k + "," + oneMaster + "))"
		if got := mustParse(t, s).Public().Text(); got != summed("sh(multi(1,"+pub+","+want+","+oneMasterShown+"))") {
			t.Errorf("%s: %s; want %s", k, got, want)
		}
	}
	last := mustParse(t, "wpkh("+oneMaster+"/0'/1/2'/2/1000000000)").Public()
	x, err := last.At(0)
	want, _ := mustParse(t, "wpkh("+oneLastShown+")").At(0)
	if !sameDerived(x, want) || err != api.OK {
		t.Errorf("%s: %x, error %d; want %x", last.Text(), x, err, want)
	}
}

// owner signs with the secrets that a descriptor has at an index.
type owner struct {
	*desc.Desc
	index uint32
}

func (o owner) Sign(pub []byte, digest api.Hash) ([]byte, bool) {
	secret, ok := o.Secret(o.index, pub)
	if !ok {
		return nil, false
	}
	sig, err := curve.Sign(secret, digest)
	return sig[:], err == api.OK
}

// TestP20_2Spent: with Inner and the secrets, what is paid to Script can be spent.
func TestP20_2Spent(t *testing.T) {
	keys := []plainKey{treeKey(masterOf(3), "'", "*", 2), treeKey(masterOf(1), "'", "*'"), treeKey(masterOf(2), "'", "", hard+1)}
	for _, form := range forms() {
		for m := 1; m <= 3; m++ {
			plain := plainDesc{form: form, m: m, keys: keys}
			if !isMulti(form) {
				plain.keys = keys[m-1 : m]
			}
			d := mustParse(t, plain.text())
			x, err := d.At(11)
			if err != api.OK {
				t.Fatalf("%s: error %d", d.Text(), err)
			}
			pay := api.Tx{Version: 1, In: []api.TxIn{{Prev: api.OutPoint{Hash: api.Hash{1}}}}, Out: []api.TxOut{{Value: 5, Script: []byte{0x51}}}}
			out := api.TxOut{Value: 7, Script: x.Script}
			in, ok := check.Spend(pay, 0, out, x.Inner, owner{d, 11})
			pay.In[0] = in
			if err := check.Input(pay, 0, out); !ok || err != api.OK {
				t.Errorf("%s: Spend %t, error %d", d.Text(), ok, err)
			}
			// The second key, the one with an index from Hard on, remains as it is in Public.
			remains := !isMulti(form) && m == 2 || isMulti(form) && m == 1
			if _, ok := check.Spend(pay, 0, out, x.Inner, owner{d.Public(), 11}); ok != remains {
				t.Errorf("%s: Spend %t without the other secrets", d.Public().Text(), ok)
			}
		}
	}
}
