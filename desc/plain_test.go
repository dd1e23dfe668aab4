package desc_test

import (
	"bytes"
	"crypto/sha256"
	"encoding/hex"
	"slices"
	"strconv"
	"strings"
	"testing"

	"strongbox/api"
	"strongbox/curve"
	"strongbox/desc"
	"strongbox/hash"
	"strongbox/hdkey"
	"strongbox/text"
)

const hard = hdkey.Hard

// forms returns all forms of descriptors.
func forms() []string {
	return []string{"pkh", "wpkh", "sh-wpkh", "multi", "sh-multi", "wsh-multi", "sh-wsh-multi",
		"sortedmulti", "sh-sortedmulti", "wsh-sortedmulti", "sh-wsh-sortedmulti"}
}

func isMulti(form string) bool { return strings.HasSuffix(form, "multi") }

func hexed(b []byte) string { return hex.EncodeToString(b) }

func unhex(s string) []byte {
	b, err := hex.DecodeString(s)
	if err != nil {
		panic(err)
	}
	return b
}

// masterOf returns a master key of these tests.
func masterOf(n int) hdkey.Key {
	k, err := hdkey.Master(append(make([]byte, 30), byte(n), 77))
	if err != api.OK {
		panic(err)
	}
	return k
}

func shownOf(k hdkey.Key) hdkey.Key {
	p, err := k.Public()
	if err != api.OK {
		panic(err)
	}
	return p
}

// pubOf returns the public key of a number, as digits.
func pubOf(n byte) string {
	pub, err := curve.Public([32]byte{31: n})
	if err != api.OK {
		panic(err)
	}
	return hex.EncodeToString(pub[:])
}

// plainKey is a K: its text, the same as Text writes it, and what it leads to.
type plainKey struct {
	text, written string
	pub           []byte // of a public key alone
	root          hdkey.Key
	steps         []uint32
	index         string // "", "*" or "*'"
}

func aloneKey(digits string) plainKey {
	return plainKey{text: digits, written: digits, pub: unhex(digits)}
}

// treeKey returns a key of a tree, with steps that are written with a mark.
func treeKey(root hdkey.Key, mark, index string, steps ...uint32) plainKey {
	k := plainKey{text: root.Text(), written: root.Text(), root: root, steps: steps, index: index}
	for _, n := range steps {
		number := "/" + strconv.FormatUint(uint64(n&(hard-1)), 10)
		k.text, k.written = k.text+number, k.written+number
		if n >= hard {
			k.text, k.written = k.text+mark, k.written+"'"
		}
	}
	if index != "" {
		k.text, k.written = k.text+"/"+strings.Replace(index, "'", mark, 1), k.written+"/"+index
	}
	return k
}

// at returns the public key at an index and, of a private one, the key; or false if there is none.
func (k plainKey) at(index uint32) (pub, secret []byte, ok bool) {
	if k.pub != nil {
		return k.pub, nil, true
	}
	path := slices.Clone(k.steps)
	switch k.index {
	case "*":
		path = append(path, index)
	case "*'":
		path = append(path, index+hard)
	}
	child, err := k.root.Walk(path...)
	if err != api.OK {
		return nil, nil, false
	}
	point, _ := child.Point()
	if number, err := child.Secret(); err == api.OK {
		secret = number[:]
	}
	return point[:], secret, true
}

// plainDesc is a descriptor.
type plainDesc struct {
	form string
	m    int
	keys []plainKey
}

// write returns its text, with each key as one returns it.
func (d plainDesc) write(one func(k plainKey) string) string {
	var list []string
	if isMulti(d.form) {
		list = append(list, strconv.Itoa(d.m))
	}
	for _, k := range d.keys {
		list = append(list, one(k))
	}
	names := strings.Split(d.form, "-")
	return strings.Join(names, "(") + "(" + strings.Join(list, ",") + strings.Repeat(")", len(names))
}

func (d plainDesc) text() string { return d.write(func(k plainKey) string { return k.text }) }

// written returns what Text should return.
func (d plainDesc) written() string {
	return summed(d.write(func(k plainKey) string { return k.written }))
}

func (d plainDesc) ranged() bool {
	return slices.ContainsFunc(d.keys, func(k plainKey) bool { return k.index != "" })
}

func (d plainDesc) at(index uint32) (desc.Derived, api.Errno) {
	if index >= hard {
		return desc.Derived{}, api.ErrArg
	}
	var x desc.Derived
	for _, k := range d.keys {
		pub, _, ok := k.at(index)
		if !ok {
			return desc.Derived{}, api.ErrNone
		}
		x.Keys = append(x.Keys, pub)
	}
	x.Script, x.Inner = plainPay(strings.Split(d.form, "-"), d.m, x.Keys)
	return x, api.OK
}

// plainPay returns the script of these names, and what its hashes refer to.
func plainPay(names []string, m int, keys [][]byte) (s []byte, inner [][]byte) {
	switch names[0] {
	case "pkh":
		return join("76a914", hash160(keys[0]), "88ac"), [][]byte{keys[0]}
	case "wpkh":
		return join("0014", hash160(keys[0]), ""), [][]byte{keys[0]}
	case "sh":
		s, inner = plainPay(names[1:], m, keys)
		return join("a914", hash160(s), "87"), append(inner, s)
	case "wsh":
		s, inner = plainPay(names[1:], m, keys)
		digest := sha256.Sum256(s)
		return join("0020", digest[:], ""), append(inner, s)
	case "sortedmulti":
		keys = slices.Clone(keys)
		slices.SortFunc(keys, bytes.Compare)
	}
	s = []byte{byte(0x50 + m)}
	for _, pub := range keys {
		s = append(append(s, 33), pub...)
	}
	return append(s, byte(0x50+len(keys)), 0xae), nil
}

func hash160(b []byte) []byte {
	digest := sha256.Sum256(b)
	short := hash.Ripemd(digest[:])
	return short[:]
}

func join(front string, middle []byte, end string) []byte {
	return slices.Concat(unhex(front), middle, unhex(end))
}

// summed returns a text with its checksum.
func summed(s string) string {
	sum, err := text.Checksum(s)
	if err != api.OK {
		panic("no checksum of " + s)
	}
	return s + "#" + sum
}

func mustParse(t *testing.T, s string) *desc.Desc {
	t.Helper()
	d, err := desc.Parse(s)
	if err != api.OK {
		t.Fatalf("Parse(%q): error %d", s, err)
	}
	return d
}

func expectErr(t *testing.T, s string, want api.Errno) {
	t.Helper()
	if d, err := desc.Parse(s); d != nil || err != want {
		t.Errorf("Parse(%.300q) = %v, error %d; want error %d", s, d, err, want)
	}
}

// expectNone: s is no descriptor, with its checksum or without one.
func expectNone(t *testing.T, s string) {
	t.Helper()
	expectErr(t, s, api.ErrForm)
	if sum, err := text.Checksum(s); err == api.OK && !strings.Contains(s, "#") {
		expectErr(t, s+"#"+sum, api.ErrForm)
	}
}

func sameDerived(a, b desc.Derived) bool {
	return bytes.Equal(a.Script, b.Script) && slices.EqualFunc(a.Inner, b.Inner, bytes.Equal) && slices.EqualFunc(a.Keys, b.Keys, bytes.Equal)
}

// expectAt holds a descriptor at an index against another answer.
func expectAt(t *testing.T, d *desc.Desc, index uint32, want desc.Derived, wantErr api.Errno) {
	t.Helper()
	if got, err := d.At(index); !sameDerived(got, want) || err != wantErr {
		t.Errorf("%s: At(%d) = %x, error %d; want %x, error %d", d.Text(), index, got, err, want, wantErr)
	}
}

// expectPlain holds what a text is parsed to against a plain descriptor, at these indices.
func expectPlain(t *testing.T, s string, plain plainDesc, indices ...uint32) *desc.Desc {
	t.Helper()
	d := mustParse(t, s)
	if d.Text() != plain.written() || d.Form() != plain.form || d.Ranged() != plain.ranged() {
		t.Errorf("%s: %s, %s, Ranged %t; want %s", s, d.Text(), d.Form(), d.Ranged(), plain.written())
	}
	for _, index := range indices {
		want, err := plain.at(index)
		expectAt(t, d, index, want, err)
		expectSecrets(t, d, plain, index)
	}
	return d
}

// plainPair is a public key, and its secret if a descriptor has it.
type plainPair struct{ pub, secret []byte }

// expectSecrets: a descriptor has the secrets of its private keys, and no others.
func expectSecrets(t *testing.T, d *desc.Desc, plain plainDesc, index uint32) {
	t.Helper()
	var list []plainPair
	for _, k := range plain.keys {
		if pub, secret, ok := k.at(index); ok {
			list = append(list, plainPair{pub, secret})
		}
	}
	for _, one := range list {
		i := slices.IndexFunc(list, func(p plainPair) bool { return p.secret != nil && bytes.Equal(p.pub, one.pub) })
		if i < 0 || index >= hard {
			expectSecret(t, d, index, one.pub, [32]byte{}, false)
		} else {
			expectSecret(t, d, index, one.pub, [32]byte(list[i].secret), true)
		}
	}
}

func expectSecret(t *testing.T, d *desc.Desc, index uint32, pub []byte, want [32]byte, has bool) {
	t.Helper()
	got, ok := d.Secret(index, pub)
	if got != want || ok != has {
		t.Errorf("%s: Secret(%d, %x) = %x, %t; want %x, %t", d.Text(), index, pub, got, ok, want, has)
	}
	if point, err := curve.Public(got); ok && (err != api.OK || !bytes.Equal(point[:], pub)) {
		t.Errorf("%s: Secret(%d, %x) has another public key", d.Text(), index, pub)
	}
}

// someKeys returns keys of all kinds.
func someKeys() []plainKey {
	a, b := masterOf(1), masterOf(2)
	deep, _ := a.Walk(hard+84, hard, 3)
	return []plainKey{
		aloneKey(pubOf(2)),
		treeKey(a, "'", ""),
		treeKey(a, "h", "*", 1, hard+2),
		treeKey(b, "H", "*'"),
		treeKey(shownOf(b), "'", "*", 0, 1),
		aloneKey(pubOf(7)),
		treeKey(deep, "h", "", hard-1, 1<<32-1, 5),
		treeKey(shownOf(deep), "'", ""),
		treeKey(shownOf(a), "'", "", 7, 8, 9),
		treeKey(deep, "H", "*'", hard, hard+1, 0, 12),
		treeKey(b, "'", "*", 44, 0, 1000000000),
		treeKey(shownOf(b), "'", "*"),
	}
}

// some returns descriptors of a form, with keys of all kinds.
func some(form string) []plainDesc {
	var list []plainDesc
	keys := someKeys()
	for i := range keys {
		d := plainDesc{form: form, keys: keys[i : i+1]}
		if isMulti(form) {
			n := 1 + i%4
			d.m, d.keys = 1+i%n, append(slices.Clone(keys[i:]), keys[:i]...)[:n]
		}
		list = append(list, d)
	}
	return list
}
