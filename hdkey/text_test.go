package hdkey_test

import (
	"bytes"
	"strings"
	"testing"

	"strongbox/api"
	"strongbox/hdkey"
	"strongbox/text"
)

// parsed holds Parse against an answer.
func parsed(t *testing.T, s string, want hdkey.Key, wantErr api.Errno) {
	t.Helper()
	got, err := hdkey.Parse(s)
	expect(t, "Parse of "+s, got, err, want, wantErr)
}

// written returns the 78 bytes of a key.
func written(mark string, k hdkey.Key) []byte {
	n := k.Child
	out := append(unhex(mark), k.Depth)
	out = append(out, k.Finger[:]...)
	out = append(out, byte(n>>24), byte(n>>16), byte(n>>8), byte(n))
	out = append(out, k.Chain[:]...)
	return append(out, k.Data[:]...)
}

const (
	privateMark = "0488ade4"
	publicMark  = "0488b21e"
)

// child returns a key whose fields are all set.
func child(t *testing.T) hdkey.Key {
	t.Helper()
	k, err := mustMaster(t).Walk(1, hdkey.Hard+0x01020304)
	if err != api.OK {
		t.Fatalf("Walk: error %d", err)
	}
	return k
}

func TestP6_3Text(t *testing.T) {
	k := child(t)
	for _, depth := range []byte{0, 1, 127, 255} {
		k.Depth = depth
		if s, want := k.Text(), text.Check58(written(privateMark, k)); s != want {
			t.Errorf("Text = %s, want %s", s, want)
		}
		p := mustPublic(t, k)
		if s, want := p.Text(), text.Check58(written(publicMark, p)); s != want {
			t.Errorf("Text of a public key = %s, want %s", s, want)
		}
	}
}

// TestP6_3TextOfNoKey: Text tells any Data.
func TestP6_3TextOfNoKey(t *testing.T) {
	for _, data := range noData() {
		k := hdkey.Key{Depth: 3, Child: 1 << 31, Data: data}
		mark := publicMark
		if data[0] == 0 {
			mark = privateMark
		}
		if s, want := k.Text(), text.Check58(written(mark, k)); s != want {
			t.Errorf("Text of %x = %s, want %s", data, s, want)
		}
		parsed(t, k.Text(), hdkey.Key{}, api.ErrForm)
	}
}

func TestP6_3ThereAndBack(t *testing.T) {
	k := mustMaster(t)
	parsed(t, k.Text(), k, api.OK)
	p := mustPublic(t, k)
	parsed(t, p.Text(), p, api.OK)
	for _, n := range numbers() {
		c, _ := k.Step(n)
		for _, depth := range []byte{1, 2, 128, 255} {
			c.Depth = depth
			parsed(t, c.Text(), c, api.OK)
			p := mustPublic(t, c)
			parsed(t, p.Text(), p, api.OK)
		}
	}
	// Below depth 0 a parent and a number may be anything, zero too.
	c := child(t)
	c.Finger, c.Child = [4]byte{}, 0
	parsed(t, c.Text(), c, api.OK)
}

func TestP6_3Placeless(t *testing.T) {
	for _, k := range []hdkey.Key{mustMaster(t), mustPublic(t, mustMaster(t))} {
		for i := range 4 {
			bad := k
			bad.Finger[i] = 1
			parsed(t, bad.Text(), hdkey.Key{}, api.ErrForm)
		}
		for _, n := range []uint32{1, 256, 1 << 16, 1 << 24, hdkey.Hard, 1<<32 - 1} {
			bad := k
			bad.Child = n
			parsed(t, bad.Text(), hdkey.Key{}, api.ErrForm)
			bad.Finger = [4]byte{1, 2, 3, 4}
			parsed(t, bad.Text(), hdkey.Key{}, api.ErrForm)
			bad.Depth = 1
			parsed(t, bad.Text(), bad, api.OK)
		}
	}
}

func TestP6_3OtherMarks(t *testing.T) {
	k := child(t)
	p := mustPublic(t, k)
	// Each mark with Data of the other kind, and Data of neither.
	parsed(t, text.Check58(written(publicMark, k)), hdkey.Key{}, api.ErrForm)
	parsed(t, text.Check58(written(privateMark, p)), hdkey.Key{}, api.ErrForm)
	for _, data := range noData() {
		bad := k
		bad.Data = data
		parsed(t, text.Check58(written(privateMark, bad)), hdkey.Key{}, api.ErrForm)
		parsed(t, text.Check58(written(publicMark, bad)), hdkey.Key{}, api.ErrForm)
	}
	for i := range 4 {
		for bit := range 8 {
			for _, one := range [][]byte{written(privateMark, k), written(publicMark, p)} {
				one[i] ^= 1 << bit
				parsed(t, text.Check58(one), hdkey.Key{}, api.ErrForm)
			}
		}
	}
	for _, mark := range []string{"00000000", "04358394", "043587cf", "ffffffff"} {
		parsed(t, text.Check58(written(mark, k)), hdkey.Key{}, api.ErrForm)
		parsed(t, text.Check58(written(mark, p)), hdkey.Key{}, api.ErrForm)
	}
}

func TestP6_3OtherLengths(t *testing.T) {
	whole := append(written(privateMark, child(t)), counted(60)...)
	for n := range len(whole) {
		if n != 78 {
			parsed(t, text.Check58(whole[:n]), hdkey.Key{}, api.ErrSize)
		}
	}
	// Another length, and another mark: the length is told first.
	parsed(t, text.Check58(make([]byte, 77)), hdkey.Key{}, api.ErrSize)
	parsed(t, text.Check58(make([]byte, 79)), hdkey.Key{}, api.ErrSize)
	parsed(t, text.Check58(make([]byte, 78)), hdkey.Key{}, api.ErrForm)
	parsed(t, text.Check58(nil), hdkey.Key{}, api.ErrSize)
}

func TestP6_3OtherTexts(t *testing.T) {
	good := child(t).Text()
	parsed(t, "", hdkey.Key{}, api.ErrEnd)
	parsed(t, "1", hdkey.Key{}, api.ErrEnd)
	parsed(t, "zzzz", hdkey.Key{}, api.ErrEnd)
	parsed(t, " "+good, hdkey.Key{}, api.ErrForm)
	parsed(t, good+"\n", hdkey.Key{}, api.ErrForm)
	parsed(t, good+"0", hdkey.Key{}, api.ErrForm)
	parsed(t, strings.ToUpper(good), hdkey.Key{}, api.ErrForm)
	parsed(t, good+good+good, hdkey.Key{}, api.ErrSize)
	parsed(t, strings.Repeat("0", 251), hdkey.Key{}, api.ErrSize)
	parsed(t, good[:len(good)-1], hdkey.Key{}, api.ErrSum)
	parsed(t, "1"+good, hdkey.Key{}, api.ErrSum)
	for i := range good {
		letter := "a"
		if good[i] == 'a' {
			letter = "b"
		}
		parsed(t, good[:i]+letter+good[i+1:], hdkey.Key{}, api.ErrSum)
	}
}

// TestP6_3OneText: what Parse accepts is the Text of what it returns.
func TestP6_3OneText(t *testing.T) {
	base := written(publicMark, mustPublic(t, child(t)))
	accepted := 0
	for i := range base {
		for bit := range 8 {
			b := bytes.Clone(base)
			b[i] ^= 1 << bit
			s := text.Check58(b)
			k, err := hdkey.Parse(s)
			switch {
			case err == api.OK && k.Text() == s:
				accepted++
			case err == api.OK || k != hdkey.Key{}:
				t.Errorf("Parse(%s) = %x, error %d", s, k, err)
			}
		}
	}
	if accepted < 8*41 {
		t.Errorf("only %d were accepted", accepted)
	}
}
