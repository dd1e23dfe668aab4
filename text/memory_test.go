package text_test

import (
	"bytes"
	"testing"

	"strongbox/text"
)

// sameAfter calls a function with a part of a list that has bytes behind it, and holds that none of them changes.
func sameAfter(t *testing.T, name string, room []byte, call func(part []byte)) {
	t.Helper()
	before := bytes.Clone(room)
	for n := range len(room) + 1 {
		call(room[:n])
	}
	if !bytes.Equal(room, before) {
		t.Errorf("%s changed its argument: %x was %x", name, room, before)
	}
}

func TestP3_5ArgumentsRemain(t *testing.T) {
	bits := bytes.Repeat([]byte{1}, 60)
	sameAfter(t, "Hex", message(60), func(part []byte) { text.Hex(part) })
	sameAfter(t, "Base58", message(60), func(part []byte) { text.Base58(part) })
	sameAfter(t, "Check58", message(60), func(part []byte) { text.Check58(part) })
	sameAfter(t, "Segwit", message(60), func(part []byte) { text.Segwit("bc", 1, part) })
	sameAfter(t, "Bech32", bits, func(part []byte) { text.Bech32("bc", part, true) })
	for from := 1; from <= 8; from++ {
		for to := 1; to <= 8; to++ {
			sameAfter(t, "Regroup", bits, func(part []byte) {
				text.Regroup(part, from, to, true)
				text.Regroup(part, from, to, false)
			})
		}
	}
}

// apart spoils one answer and what is behind it, and holds that another answer of the same call does not change.
func apart(t *testing.T, name string, call func() []byte) {
	t.Helper()
	first, second := call(), call()
	want := bytes.Clone(second)
	for i := range first[:cap(first)] {
		first[:cap(first)][i] ^= 255
	}
	if len(want) == 0 || !bytes.Equal(second, want) || !bytes.Equal(call(), want) {
		t.Errorf("%s: an answer shares memory with another: %x was %x", name, second, want)
	}
}

func TestP3_5AnswersAreNew(t *testing.T) {
	data := bytes.Repeat([]byte{1}, 16)
	apart(t, "FromHex", func() []byte { b, _ := text.FromHex("00ff17"); return b })
	apart(t, "FromBase58", func() []byte { b, _ := text.FromBase58("112zz"); return b })
	apart(t, "FromCheck58", func() []byte { b, _ := text.FromCheck58("1Wh4bh"); return b })
	apart(t, "FromBech32", func() []byte { _, b, _, _ := text.FromBech32("bc1sw50qgdz25j"); return b })
	apart(t, "FromSegwit", func() []byte { _, b, _ := text.FromSegwit("bc", "bc1sw50qgdz25j"); return b })
	for to := 1; to <= 8; to++ {
		apart(t, "Regroup", func() []byte { b, _ := text.Regroup(data, 8, to, true); return b })
	}
	if !bytes.Equal(data, bytes.Repeat([]byte{1}, 16)) {
		t.Errorf("an answer shares memory with an argument")
	}
}
