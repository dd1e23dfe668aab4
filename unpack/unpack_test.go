package unpack_test

import (
	"errors"
	"slices"
	"testing"

	"strongbox/api"
	"strongbox/unpack"
)

// pairs reads a list of at most three pairs of a number and a text.
type pairs struct {
	unpack.Reader
}

type pair struct {
	n    uint16
	text string
}

func (p pairs) pair() pair { return pair{p.U16(), string(p.Bytes(2))} }

func (p pairs) all() []pair { return unpack.List(p.Reader, p.Count(3), p.pair) }

func read(s string) ([]pair, api.Errno) {
	return unpack.Whole([]byte(s), func(r unpack.Reader) []pair { return pairs{r}.all() })
}

func TestWhole(t *testing.T) {
	for _, c := range []struct {
		s    string
		want []pair
		err  api.Errno
	}{
		{"\x00", nil, api.OK},
		{"\x01\x02\x01\x00", []pair{{258, ""}}, api.OK},
		{"\x03\x01\x00\x01a\x02\x00\x02bc\x03\x00\x00", []pair{{1, "a"}, {2, "bc"}, {3, ""}}, api.OK},
		{"", nil, api.ErrEnd},
		{"\x02\x01\x00\x01a", nil, api.ErrEnd},
		{"\x01\x01\x00\x02a", nil, api.ErrEnd},
		{"\x01\x01\x00\x03abc", nil, api.ErrSize},
		{"\x03\x01\x00\x03abc", nil, api.ErrSize},
		{"\x04", nil, api.ErrSize},
		{"\xfd\x01\x00\x01\x00\x00", nil, api.ErrForm},
		{"\xfe\x01\x00\x00\x02", nil, api.ErrSize},
		{"\x00\x00", nil, api.ErrForm},
		{"\x01\x01\x00\x01ab", nil, api.ErrForm},
	} {
		if got, err := read(c.s); !slices.Equal(got, c.want) || err != c.err {
			t.Errorf("%x: %v, error %d; want %v, %d", c.s, got, err, c.want, c.err)
		}
	}
}

// TestList stops at the first element that could not be read.
func TestList(t *testing.T) {
	calls := 0
	_, err := unpack.Whole([]byte("ab"), func(r unpack.Reader) []byte {
		return unpack.List(r, 9, func() byte { calls++; return r.U8() })
	})
	if err != api.ErrEnd || calls != 3 {
		t.Errorf("error %d after %d calls", err, calls)
	}
}

// TestNothingBehindAnError: neither Count nor Sure goes on when something could not be read.
func TestNothingBehindAnError(t *testing.T) {
	for _, step := range []func(r unpack.Reader){
		func(r unpack.Reader) { r.Count(3) },
		func(r unpack.Reader) { r.U8(); r.Sure() },
	} {
		_, err := unpack.Whole(nil, func(r unpack.Reader) int {
			step(r)
			unpack.Fail(api.ErrNone)
			return 0
		})
		if err != api.ErrEnd {
			t.Errorf("error %d", err)
		}
	}
}

func TestFail(t *testing.T) {
	got, err := unpack.Whole([]byte("a"), func(r unpack.Reader) byte {
		defer func() { unpack.Fail(api.ErrNone) }()
		return r.U8()
	})
	if got != 0 || err != api.ErrNone {
		t.Errorf("%d, error %d", got, err)
	}
}

// TestOtherPanic: what isn't a reading that is abandoned is not swallowed.
func TestOtherPanic(t *testing.T) {
	other := errors.New("other")
	defer func() {
		if p := recover(); p != other {
			t.Errorf("recovered %v", p)
		}
	}()
	unpack.Whole(nil, func(r unpack.Reader) int { panic(other) })
	t.Error("no panic")
}
