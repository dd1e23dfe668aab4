package script_test

import (
	"bytes"
	"testing"

	"strongbox/script"
)

// opLists returns the lists of bytes that Parse returns; kindLists and programLists do so for Kind and Program.
func opLists(s []byte) [][]byte {
	ops, _ := script.Parse(s)
	var lists [][]byte
	for _, op := range ops {
		lists = append(lists, op.Data)
	}
	return lists
}

func kindLists(s []byte) [][]byte {
	_, parts := script.Kind(s)
	return parts
}

func programLists(s []byte) [][]byte {
	_, push, _ := script.Program(s)
	return [][]byte{push}
}

// spoil overwrites a list, its spare capacity too.
func spoil(b []byte, with byte) {
	b = b[:cap(b)]
	for i := range b {
		b[i] = with
	}
}

// expectOwn: no list of a result shares memory with another one, with another result, or with what was passed.
func expectOwn(t *testing.T, what string, arg []byte, call func(b []byte) [][]byte) {
	t.Helper()
	room := append(append(make([]byte, 0, len(arg)+8), arg...), "spare"...)
	before := bytes.Clone(room[:cap(room)])
	given := room[:len(arg)]
	first, second := call(given), call(given)
	want := bytes.Join(second, []byte("/"))
	if !bytes.Equal(room[:cap(room)], before) {
		t.Errorf("%s: the argument was changed", what)
	}
	for _, b := range first {
		spoil(b, 0xee)
	}
	if !bytes.Equal(room[:cap(room)], before) {
		t.Errorf("%s: a result shares memory with the argument", what)
	}
	spoil(room, 0xdd)
	if !bytes.Equal(bytes.Join(second, []byte("/")), want) || !bytes.Equal(bytes.Join(call(before[:len(arg)]), []byte("/")), want) {
		t.Errorf("%s: two results share memory, or the argument was kept", what)
	}
	for i, b := range second {
		spoil(b, byte(i))
	}
	for i, b := range second {
		if !bytes.Equal(b, bytes.Repeat([]byte{byte(i)}, len(b))) {
			t.Errorf("%s: two lists of a result share memory", what)
		}
	}
}

// one makes a list of the only one.
func one(call func(b []byte) []byte) func(b []byte) [][]byte {
	return func(b []byte) [][]byte { return [][]byte{call(b)} }
}

func TestP11_4Memory(t *testing.T) {
	for _, f := range forms(t) {
		expectOwn(t, "Parse", f.s, opLists)
		expectOwn(t, "Kind", f.s, kindLists)
		expectOwn(t, "Program", f.s, programLists)
		expectOwn(t, "Push", f.s, one(script.Push))
		expectOwn(t, "Pushes", f.s, func(b []byte) [][]byte { script.Pushes(b); return nil })
		expectOwn(t, "Truth", f.s, func(b []byte) [][]byte { script.Truth(b); return nil })
	}
	for _, s := range []string{"02 6162 02 6364 00 4c0165 4d010066 4e0100000067 76", "4c00 4d0000 4e00000000 00", "4b", "4e ffffffff 00", ""} {
		expectOwn(t, "Parse", hexed(t, s), opLists)
		expectOwn(t, "Kind", hexed(t, s), kindLists)
	}
	for _, s := range []string{"", "00", "01", "81", "80", "8080", "ff80", "0102030405060708", "0102030405060780", "0000000080"} {
		expectOwn(t, "FromNumber", hexed(t, s), func(b []byte) [][]byte { script.FromNumber(b, 8); return nil })
		expectOwn(t, "Truth", hexed(t, s), func(b []byte) [][]byte { script.Truth(b); return nil })
		expectOwn(t, "Push", hexed(t, s), one(script.Push))
	}
	for _, n := range []int{1, 2, 20, 32, 40, 41} {
		for _, version := range []int{-1, 0, 1, 16} {
			expectOwn(t, "PayWitness", fill(n, 3), one(func(b []byte) []byte { s, _ := script.PayWitness(version, b); return s }))
		}
	}
	for _, n := range []int{76, 256, 65536} {
		expectOwn(t, "Push", fill(n, 3), one(script.Push))
	}
}

// TestP11_4Keys: a list that is passed as the keys, and each of them.
func TestP11_4Keys(t *testing.T) {
	for _, n := range []int{1, 2, 16} {
		room := make([]byte, 0, 40*n)
		var list [][]byte
		for _, key := range keys(n) {
			// All keys are parts of one list, each with spare capacity that the next one has.
			list = append(list, append(room, key...)[len(room):])
			room = append(room, key...)
		}
		list = append(list, []byte("spare"))[:n]
		before := bytes.Clone(room[:cap(room)])
		s, _ := script.PayMulti(n, list...)
		again, _ := script.PayMulti(n, list...)
		want := multiOf(byte(0x50+n), byte(0x50+n), keys(n)...)
		spoil(s, 0xee)
		if !bytes.Equal(room[:cap(room)], before) || len(list) != n || string(list[:n+1][n]) != "spare" {
			t.Errorf("%d keys: they were changed, or a result shares memory with them", n)
		}
		spoil(room, 0xdd)
		if !bytes.Equal(again, want) {
			t.Errorf("%d keys: two results share memory, or the keys were kept", n)
		}
	}
}

func TestP11_4NewResults(t *testing.T) {
	for what, call := range map[string]func() []byte{
		"Push of none":        func() []byte { return script.Push(nil) },
		"Push of a small one": func() []byte { return script.Push([]byte{5}) },
		"Push of 81":          func() []byte { return script.Push([]byte{0x81}) },
		"Number":              func() []byte { return script.Number(-300) },
		"Number of 0":         func() []byte { return script.Number(0) },
		"PayKey":              func() []byte { return script.PayKey([20]byte{1}) },
		"PayScript":           func() []byte { return script.PayScript([20]byte{1}) },
		"parts of a Multi": func() []byte {
			_, parts := script.Kind(multiOf(0x51, 0x51, keys(1)...))
			return parts[0]
		},
		"parts of a Witness": func() []byte {
			_, parts := script.Kind([]byte{0x51, 2, 1, 2})
			return parts[0]
		},
	} {
		first, second := call(), call()
		want := bytes.Clone(second)
		spoil(first, 0xee)
		if !bytes.Equal(second, want) || !bytes.Equal(call(), want) {
			t.Errorf("%s: two results share memory", what)
		}
	}
	// The outer lists, too.
	s := multiOf(0x51, 0x52, keys(2)...)
	_, first := script.Kind(s)
	_, second := script.Kind(s)
	ops, _ := script.Parse(s)
	more, _ := script.Parse(s)
	clear(first[:cap(first)])
	clear(ops[:cap(ops)])
	if len(second[0]) != 1 || len(second[2]) != 33 || more[0].Code != 0x51 || len(more[2].Data) != 33 {
		t.Errorf("two results share their lists")
	}
}
