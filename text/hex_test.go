package text_test

import (
	"bytes"
	"encoding/hex"
	"strings"
	"testing"

	"strongbox/api"
	"strongbox/text"
)

// message returns n bytes that differ from their neighbours.
func message(n int) []byte {
	b := make([]byte, n)
	for i := range b {
		b[i] = byte(37*i + 11)
	}
	return b
}

// unhex returns the bytes of digits that a test has written.
func unhex(s string) []byte {
	b, err := hex.DecodeString(s)
	if err != nil {
		panic(err)
	}
	return b
}

// expectBytes holds what a function answered, bytes and an error, against what it should.
func expectBytes(t *testing.T, name string, got []byte, err api.Errno, want []byte, wantErr api.Errno) {
	t.Helper()
	if !bytes.Equal(got, want) || err != wantErr {
		t.Errorf("%s: %x, error %d; want %x, %d", name, got, err, want, wantErr)
	}
}

// fromHex holds FromHex of s against an answer.
func fromHex(t *testing.T, s string, want []byte, wantErr api.Errno) {
	t.Helper()
	got, err := text.FromHex(s)
	expectBytes(t, "FromHex of "+s, got, err, want, wantErr)
}

func TestP3_1Hex(t *testing.T) {
	all := make([]byte, 256)
	for i := range all {
		all[i] = byte(i)
	}
	for _, b := range [][]byte{nil, {}, {0}, {0x0a}, {0xa0}, {0xff, 0}, all, message(1000)} {
		s := hex.EncodeToString(b)
		if got := text.Hex(b); got != s {
			t.Errorf("Hex(%x) = %s", b, got)
		}
		fromHex(t, s, b, api.OK)
		fromHex(t, strings.ToUpper(s), b, api.OK)
	}
	fromHex(t, "aBCdEf09", []byte{0xab, 0xcd, 0xef, 9}, api.OK)
}

func TestP3_1HexOtherLetters(t *testing.T) {
	for n := range 256 {
		letter := string([]byte{byte(n)})
		if strings.Contains("0123456789abcdefABCDEF", letter) {
			continue
		}
		for _, s := range []string{letter + "0", "0" + letter, letter + letter, "00ff" + letter + "f", "00f" + letter + "ff"} {
			fromHex(t, s, nil, api.ErrForm)
		}
	}
	fromHex(t, "0x00", nil, api.ErrForm)
	fromHex(t, "٠٠", nil, api.ErrForm)
}

func TestP3_1HexOddLengths(t *testing.T) {
	for _, s := range []string{"0", "f", "abc", "00000", "g", "0g0", strings.Repeat("a", 999)} {
		fromHex(t, s, nil, api.ErrForm)
	}
}
