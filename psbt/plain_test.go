package psbt_test

import (
	"bytes"
	"fmt"
	"reflect"
	"slices"
	"testing"

	"strongbox/api"
	"strongbox/check"
	"strongbox/curve"
	"strongbox/hash"
	"strongbox/psbt"
	"strongbox/script"
	"strongbox/tx"
)

// keyOf returns a small key as a public one.
func keyOf(n int) []byte {
	pub, err := curve.Public([32]byte{31: byte(n)})
	if err != api.OK {
		panic(err)
	}
	return pub[:]
}

func keysOf(list ...int) [][]byte {
	var keys [][]byte
	for _, n := range list {
		keys = append(keys, keyOf(n))
	}
	return keys
}

// signer is a Signer with small keys.
type signer []int

func (s signer) Sign(pub []byte, digest api.Hash) ([]byte, bool) {
	for _, n := range s {
		if bytes.Equal(keyOf(n), pub) {
			sig, _ := curve.Sign([32]byte{31: byte(n)}, digest)
			return sig[:], true
		}
	}
	return nil, false
}

// call is what a Signer was asked, and what it returned.
type call struct {
	pub, sig string
	ok       bool
}

// spy is a Signer that notes what it is asked.
type spy struct {
	check.Signer
	calls []call
}

func (s *spy) Sign(pub []byte, digest api.Hash) ([]byte, bool) {
	sig, ok := s.Signer.Sign(pub, digest)
	s.calls = append(s.calls, call{string(pub), string(sig), ok})
	return sig, ok
}

// answer is a Signer that is a function.
type answer func(pub []byte, digest api.Hash) ([]byte, bool)

func (f answer) Sign(pub []byte, digest api.Hash) ([]byte, bool) { return f(pub, digest) }

// coin is a script to which something was paid, with what hashes in it refer to, its keys, and how many of them are needed.
type coin struct {
	name  string
	s     []byte
	inner [][]byte
	keys  []int
	need  int
}

func multi(m int, keys ...int) coin {
	s, err := script.PayMulti(m, keysOf(keys...)...)
	if err != api.OK {
		panic(err)
	}
	return coin{fmt.Sprintf("Multi of %d of %d", m, keys), s, nil, keys, m}
}

func program(b []byte) []byte {
	s, err := script.PayWitness(0, b)
	if err != api.OK {
		panic(err)
	}
	return s
}

func (c coin) behindScript() coin {
	return coin{"ScriptHash of " + c.name, script.PayScript(hash.Hash160(c.s)), append(slices.Clone(c.inner), c.s), c.keys, c.need}
}

func (c coin) behindWitness() coin {
	sum := hash.Sum256(c.s)
	return coin{"WitnessScript of " + c.name, program(sum[:]), append(slices.Clone(c.inner), c.s), c.keys, c.need}
}

func byKey(n int) coin {
	return coin{"KeyHash", script.PayKey(hash.Hash160(keyOf(n))), keysOf(n), []int{n}, 1}
}

func byWitnessKey(n int) coin {
	sum := hash.Hash160(keyOf(n))
	return coin{"WitnessKey", program(sum[:]), keysOf(n), []int{n}, 1}
}

// coins are all forms that can be spent.
func coins() []coin {
	var list []coin
	for _, c := range []coin{byKey(1), multi(1, 1), multi(2, 1, 2, 3), multi(3, 3, 1, 2), multi(2, 1, 2, 1), multi(2, 1, 1, 2)} {
		list = append(list, c, c.behindScript(), c.behindWitness(), c.behindWitness().behindScript())
	}
	return append(list, byWitnessKey(1), byWitnessKey(1).behindScript())
}

func (c coin) out() api.TxOut { return api.TxOut{Value: 5000, Script: c.s} }

// all returns a Signer with all keys of a coin.
func (c coin) all() signer { return signer(c.keys) }

// payment returns a transaction with so many inputs and three outputs.
func payment(inputs int) api.Tx {
	t := api.Tx{Version: 2, Lock: 7}
	for i := range inputs {
		t.In = append(t.In, api.TxIn{Prev: api.OutPoint{Hash: api.Hash{byte(i), 24}, Index: uint32(i)}, Seq: uint32(i + 50)})
	}
	for i := range 3 {
		t.Out = append(t.Out, api.TxOut{Value: int64(i + 1), Script: []byte{0x51, byte(0x51 + i)}})
	}
	return t
}

// created returns a packet about which nothing is known.
func created(inputs int) psbt.Packet {
	p, err := psbt.Create(payment(inputs))
	if err != api.OK {
		panic(err)
	}
	return p
}

// knowing returns a packet with two inputs, of which the second one spends a coin.
func knowing(c coin) psbt.Packet {
	p, err := created(2).Update(1, c.out(), c.inner...)
	if err != api.OK {
		panic(err)
	}
	return p
}

// full returns a packet of three inputs with each part of the first two in use, whether it makes sense or not.
func full() psbt.Packet {
	p := created(3)
	p.Ins[0] = psbt.In{
		Known: true, Out: api.TxOut{Value: -5, Script: []byte("out")}, Inner: [][]byte{[]byte("inner"), {}, []byte("more")},
		Sigs:  []psbt.Sig{{Pub: []byte("pub"), Sig: []byte("sig")}, {Pub: []byte{}, Sig: []byte("of nobody")}},
		Final: true, Script: []byte("script"), Witness: [][]byte{[]byte("item"), {}},
	}
	p.Ins[1] = psbt.In{
		Out: api.TxOut{Value: 1 << 62, Script: []byte("unknown")}, Inner: [][]byte{[]byte("inner")}, Sigs: []psbt.Sig{{Pub: []byte("a"), Sig: []byte("b")}},
		Script: []byte("early"), Witness: [][]byte{[]byte("items")},
	}
	return p
}

// copyOf returns a copy of anything, and with spare capacity behind each list if that is asked for, in which other things are.
func copyOf[T any](x T, roomy bool) T {
	return copyValue(reflect.ValueOf(x), roomy).Interface().(T)
}

func copyValue(v reflect.Value, roomy bool) reflect.Value {
	out := reflect.New(v.Type()).Elem()
	out.Set(v)
	switch v.Kind() {
	case reflect.Slice:
		if v.IsNil() {
			return out
		}
		n := v.Len()
		room := 0
		if roomy {
			room = 3
		}
		out.Set(reflect.MakeSlice(v.Type(), n+room, n+room))
		for i := range n {
			out.Index(i).Set(copyValue(v.Index(i), roomy))
		}
		for i := n; i < n+room; i++ {
			if out.Index(i).Kind() == reflect.Uint8 {
				out.Index(i).SetUint(0xab)
			}
		}
		out.Set(out.Slice(0, n))
	case reflect.Struct:
		for i := range v.NumField() {
			out.Field(i).Set(copyValue(v.Field(i), roomy))
		}
	}
	return out
}

// expectPacket: a packet is what it should be, beside an error.
func expectPacket(t *testing.T, what string, got psbt.Packet, err api.Errno, want psbt.Packet, wantErr api.Errno) {
	t.Helper()
	if err != wantErr {
		t.Errorf("%s: error %d; want %d", what, err, wantErr)
	}
	if wantErr != api.OK {
		want = psbt.Packet{}
	}
	if text(got) != text(want) {
		t.Errorf("%s: %.999s; want %.999s", what, text(got), text(want))
	}
}

// text returns all of a packet as text, nil and empty alike.
func text(p psbt.Packet) string {
	// tx.Encode is not told apart from others where there is no input.
	return fmt.Sprintf("%x %d %v", tx.Encode(p.Tx, true), len(p.Tx.In), p.Ins)
}

// with returns a packet in which one of the Ins is changed.
func with(p psbt.Packet, i int, change func(in *psbt.In)) psbt.Packet {
	p = copyOf(p, false)
	change(&p.Ins[i])
	return p
}
