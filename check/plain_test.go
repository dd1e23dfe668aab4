package check_test

import (
	"bytes"
	"encoding/hex"
	"fmt"
	"reflect"
	"slices"
	"strings"
	"testing"

	"strongbox/api"
	"strongbox/check"
	"strongbox/curve"
	"strongbox/hash"
	"strongbox/script"
	"strongbox/sighash"
	"strongbox/tx"
	"strongbox/vm"
)

// hexed returns the bytes whose digits a text has, beside spaces.
func hexed(s string) []byte {
	b, err := hex.DecodeString(strings.ReplaceAll(s, " ", ""))
	if err != nil {
		panic(err)
	}
	return b
}

// fill returns n bytes that tell the places of a list apart.
func fill(n int, seed byte) []byte {
	b := make([]byte, n)
	for i := range b {
		b[i] = seed + byte(i*7)
	}
	return b
}

func join(parts ...[]byte) []byte { return slices.Concat(parts...) }

// pushes returns a script that pushes items.
func pushes(list ...[]byte) []byte {
	var s []byte
	for _, b := range list {
		s = append(s, script.Push(b)...)
	}
	return s
}

// keyOf returns a small key as a public one.
func keyOf(n int) []byte {
	pub, err := curve.Public([32]byte{31: byte(n)})
	if err != api.OK {
		panic(err)
	}
	return pub[:]
}

func keysOf(list ...int) [][]byte {
	var keys [][]byte
	for _, n := range list {
		keys = append(keys, keyOf(n))
	}
	return keys
}

// signBy returns the signature of the kind All by a small key.
func signBy(n int, digest api.Hash) []byte {
	sig, err := curve.Sign([32]byte{31: byte(n)}, digest)
	if err != api.OK {
		panic(err)
	}
	return append(sig[:], sighash.All)
}

// ring is a Signer with small keys.
type ring []int

func (r ring) Sign(pub []byte, digest api.Hash) ([]byte, bool) {
	for _, n := range r {
		if bytes.Equal(keyOf(n), pub) {
			return signBy(n, digest)[:64], true
		}
	}
	return nil, false
}

// The scripts of the forms.

func toKey(n int) []byte { return script.PayKey(hash.Hash160(keyOf(n))) }

func toScript(s []byte) []byte { return script.PayScript(hash.Hash160(s)) }

func program(version int, b []byte) []byte {
	s, err := script.PayWitness(version, b)
	if err != api.OK {
		panic(err)
	}
	return s
}

func toWitnessKey(n int) []byte {
	h := hash.Hash160(keyOf(n))
	return program(0, h[:])
}

func toWitnessScript(s []byte) []byte {
	h := hash.Sum256(s)
	return program(0, h[:])
}

func multi(m int, keys ...int) []byte {
	s, err := script.PayMulti(m, keysOf(keys...)...)
	if err != api.OK {
		panic(err)
	}
	return s
}

// payment returns a transaction with three inputs and outputs.
func payment() api.Tx {
	t := api.Tx{Version: 2, Lock: 100}
	for i := range 3 {
		t.In = append(t.In, api.TxIn{Prev: api.OutPoint{Hash: api.Hash(fill(32, byte(i))), Index: uint32(i)}, Seq: uint32(i + 50)})
		t.Out = append(t.Out, api.TxOut{Value: int64(i + 1), Script: []byte{0x51}})
	}
	return t
}

// with returns a transaction with another input i.
func with(t api.Tx, i int, s []byte, witness ...[]byte) api.Tx {
	t = tx.Clone(t)
	t.In[i].Script, t.In[i].Witness = s, witness
	return t
}

// expectInput: an input may spend an output, or not.
func expectInput(t *testing.T, may bool, x api.Tx, i int, out api.TxOut) {
	t.Helper()
	want := api.OK
	if !may {
		want = api.ErrScript
	}
	if got := check.Input(x, i, out); got != want {
		t.Errorf("Input of %.80x with %.40x on %.60x: error %d; want %d", x.In[i].Script, x.In[i].Witness, out.Script, got, want)
	}
	if got := plainInput(x, i, out); got != may {
		t.Errorf("the model's Input of %.80x with %.40x on %.60x: %v; want %v", x.In[i].Script, x.In[i].Witness, out.Script, got, may)
	}
}

// expectSpends: a Script and a Witness may spend an output with this script, or not.
func expectSpends(t *testing.T, may bool, out, s []byte, witness ...[]byte) {
	t.Helper()
	expectInput(t, may, with(payment(), 1, s, witness...), 1, api.TxOut{Value: 9, Script: out})
}

// plainInput is Input as the document says it, sentence by sentence.
func plainInput(x api.Tx, i int, out api.TxOut) bool {
	in := x.In[i]
	run := func(s []byte, stack [][]byte, witness bool) ([][]byte, bool) {
		left, err := vm.Run(s, stack, vm.Setting{Tx: x, Index: i, Value: out.Value, Witness: witness})
		return left, err == api.OK
	}
	first, ok := run(in.Script, nil, false)
	if !ok || !script.Pushes(in.Script) {
		return false
	}
	if plainIsProgram(out.Script) {
		return len(in.Script) == 0 && plainWitness(out.Script, in.Witness, run)
	}
	left, ok := run(out.Script, first, false)
	if !ok || len(left) == 0 || !script.Truth(left[len(left)-1]) {
		return false
	}
	if len(out.Script) == 23 && bytes.HasPrefix(out.Script, []byte{0xa9, 20}) && out.Script[22] == 0x87 {
		inner := first[len(first)-1]
		if plainIsProgram(inner) {
			return bytes.Equal(in.Script, append([]byte{byte(len(inner))}, inner...)) && plainWitness(inner, in.Witness, run)
		}
		if left, ok = run(inner, first[:len(first)-1], false); !ok {
			return false
		}
	}
	return len(left) == 1 && script.Truth(left[0]) && len(in.Witness) == 0
}

func plainIsProgram(s []byte) bool {
	return len(s) >= 4 && len(s) <= 42 && (s[0] == 0 || s[0] >= 0x51 && s[0] <= 0x60) && int(s[1]) == len(s)-2
}

func plainWitness(s []byte, items [][]byte, run func(s []byte, stack [][]byte, witness bool) ([][]byte, bool)) bool {
	var left [][]byte
	ok := false
	switch {
	case s[0] != 0:
		return true
	case s[1] == 20 && len(items) == 2:
		left, ok = run(join(hexed("76a9"), s[1:], hexed("88ac")), items, true)
	case s[1] == 32 && len(items) > 0:
		inner := items[len(items)-1]
		if sum := hash.Sum256(inner); !bytes.Equal(sum[:], s[2:]) {
			return false
		}
		left, ok = run(inner, items[:len(items)-1], true)
	}
	return ok && len(left) == 1 && script.Truth(left[0])
}

// coin is a script to which something was paid, with what hashes in it refer to, what is signed for it, and how many keys are needed.
type coin struct {
	name    string
	s       []byte
	inner   [][]byte
	signed  []byte // the script that signatures are for
	witness bool
	keys    []int
	need    int
}

// coins are all the ways in which forms that can be spent hide each other.
func coins() []coin {
	var list []coin
	for _, c := range []coin{
		{"KeyHash", toKey(1), keysOf(1), toKey(1), false, []int{1}, 1},
		{"Multi of 1", multi(1, 1), nil, multi(1, 1), false, []int{1}, 1},
		{"Multi of 3", multi(2, 1, 2, 3), nil, multi(2, 1, 2, 3), false, []int{1, 2, 3}, 2},
		{"Multi of all", multi(3, 3, 1, 2), nil, multi(3, 3, 1, 2), false, []int{3, 1, 2}, 3},
		{"Multi of the same", multi(2, 1, 2, 1), nil, multi(2, 1, 2, 1), false, []int{1, 2, 1}, 2},
		{"Multi of 15", multi(4, 1, 2, 3, 4, 5, 6, 7, 8, 9, 10, 11, 12, 13, 14, 15), nil, multi(4, 1, 2, 3, 4, 5, 6, 7, 8, 9, 10, 11, 12, 13, 14, 15), false, []int{1, 2, 3, 4, 5, 6, 7, 8, 9, 10, 11, 12, 13, 14, 15}, 4},
	} {
		hidden := c
		hidden.name, hidden.witness = "WitnessScript of "+c.name, true
		hidden.s, hidden.inner = toWitnessScript(c.s), append(slices.Clone(c.inner), c.s)
		list = append(list, c, behind(c), hidden, behind(hidden))
	}
	key := coin{"WitnessKey", toWitnessKey(1), keysOf(1), toKey(1), true, []int{1}, 1}
	return append(list, key, behind(key))
}

// behind returns a coin behind ScriptHash.
func behind(c coin) coin {
	c.name = "ScriptHash of " + c.name
	c.inner = append(slices.Clone(c.inner), c.s)
	c.s = toScript(c.s)
	return c
}

// have returns the first n keys of a coin that differ.
func (c coin) have(n int) ring {
	var r ring
	for _, k := range c.keys {
		if !slices.Contains(r, k) && len(r) < n {
			r = append(r, k)
		}
	}
	return r
}

// items returns what a coin's own script needs: the signatures by these keys.
func (c coin) items(x api.Tx, i int, value int64, by ...int) [][]byte {
	digest := sighash.Legacy(x, i, c.signed, sighash.All)
	if c.witness {
		digest = sighash.Witness(x, i, c.signed, value, sighash.All)
	}
	var list [][]byte
	for _, n := range by {
		list = append(list, signBy(n, digest))
	}
	if kind, _ := script.Kind(c.signed); kind == script.KeyHash {
		return append(list, keyOf(c.keys[0]))
	}
	return append([][]byte{nil}, list...)
}

// input returns the Script and the Witness that spend a coin.
func (c coin) input(x api.Tx, i int, value int64, by ...int) ([]byte, [][]byte) {
	list := c.items(x, i, value, by...)
	hidden := strings.HasPrefix(c.name, "ScriptHash")
	last := len(c.inner) - 1
	switch {
	case !c.witness && hidden:
		return pushes(append(list, c.inner[last])...), nil
	case !c.witness:
		return pushes(list...), nil
	}
	var s []byte
	if hidden {
		s = pushes(c.inner[last])
		last--
	}
	if strings.Contains(c.name, "WitnessScript") {
		list = append(list, c.inner[last])
	}
	return s, list
}

// sameIn: are two inputs equal, nil and empty alike?
func sameIn(a, b api.TxIn) bool {
	return tx.Same(api.Tx{In: []api.TxIn{a}}, api.Tx{In: []api.TxIn{b}})
}

// spare returns a copy with other bytes behind it.
func spare(b []byte) []byte {
	return append(append(make([]byte, 0, len(b)+9), b...), "spare"...)[:len(b)]
}

// roomy returns a list with spare capacity that is used, as is that of each element.
func roomy(list [][]byte) [][]byte {
	var all [][]byte
	for _, b := range list {
		all = append(all, spare(b))
	}
	return append(all, []byte("spare"), []byte("room"))[:len(list)]
}

// roomyTx returns a transaction all of whose lists have spare capacity that is used.
func roomyTx(x api.Tx) api.Tx {
	x = tx.Clone(x)
	for i := range x.In {
		x.In[i].Script, x.In[i].Witness = spare(x.In[i].Script), roomy(x.In[i].Witness)
	}
	for i := range x.Out {
		x.Out[i].Script = spare(x.Out[i].Script)
	}
	x.In = append(x.In, api.TxIn{Seq: 99})[:len(x.In)]
	x.Out = append(x.Out, api.TxOut{Value: 99})[:len(x.Out)]
	return x
}

// whole returns a text of all memory of what is passed to the functions, with spare capacity.
func whole(x api.Tx, out api.TxOut, inner [][]byte) string {
	var all []any
	lists := func(list [][]byte) {
		for _, b := range list[:cap(list)] {
			all = append(all, len(b), string(b[:cap(b)]))
		}
	}
	for _, in := range x.In[:cap(x.In)] {
		all = append(all, in.Prev, in.Seq, len(in.Witness))
		lists([][]byte{in.Script})
		lists(in.Witness)
	}
	for _, o := range append(x.Out[:cap(x.Out):cap(x.Out)], out) {
		all = append(all, o.Value)
		lists([][]byte{o.Script})
	}
	lists(inner)
	return fmt.Sprintf("%q", append(all, x.Version, x.Lock, len(x.In), len(x.Out), len(inner)))
}

func equal(a, b any) bool { return reflect.DeepEqual(a, b) }
