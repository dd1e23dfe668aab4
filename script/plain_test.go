package script_test

import (
	"bytes"
	"encoding/hex"
	"regexp"
	"slices"
	"strings"
	"testing"

	"strongbox/api"
	"strongbox/script"
)

// hexed returns the bytes whose digits a text has, beside spaces.
func hexed(t *testing.T, s string) []byte {
	t.Helper()
	b, err := hex.DecodeString(strings.ReplaceAll(s, " ", ""))
	if err != nil {
		t.Fatal(err)
	}
	return b
}

// fill returns n bytes that tell the places of a list apart.
func fill(n int, seed byte) []byte {
	b := make([]byte, n)
	for i := range b {
		b[i] = seed + byte(i*7)
	}
	return b
}

// behind returns the bytes with n more of them.
func behind(n int, front ...byte) []byte { return append(bytes.Clone(front), fill(n, 3)...) }

func sameOp(a, b script.Op) bool { return a.Code == b.Code && bytes.Equal(a.Data, b.Data) }

// modelParse is Parse as the document says it.
func modelParse(s []byte) ([]script.Op, api.Errno) {
	var ops []script.Op
	for len(s) > 0 {
		code := s[0]
		s = s[1:]
		n, width := 0, map[byte]int{0x4c: 1, 0x4d: 2, 0x4e: 4}[code]
		if code <= 0x4b {
			n = int(code)
		}
		if len(s) < width {
			return nil, api.ErrEnd
		}
		for i := range width {
			n += int(s[i]) << (8 * i)
		}
		if len(s) < width+n {
			return nil, api.ErrEnd
		}
		ops = append(ops, script.Op{Code: code, Data: s[width : width+n]})
		s = s[width+n:]
	}
	return ops, api.OK
}

func modelPushes(s []byte) bool {
	ops, err := modelParse(s)
	return err == api.OK && !slices.ContainsFunc(ops, func(op script.Op) bool { return op.Code > 0x60 })
}

// The forms as patterns of hexadecimal digits.
var (
	keyHash    = regexp.MustCompile(`^76a914(.{40})88ac$`)
	scriptHash = regexp.MustCompile(`^a914(.{40})87$`)
	multi      = regexp.MustCompile(`^(5[1-9a-f]|60)((?:21.{66})+)(5[1-9a-f]|60)ae$`)
	data       = regexp.MustCompile(`^6a(.*)$`)
	program    = regexp.MustCompile(`^(00|5[1-9a-f]|60)(..)((?:..)*)$`)
)

// low returns a code as the number that it pushes: 00 as 0, 51 to 60 as 1 to 16.
func low(code byte) int {
	if code == 0 {
		return 0
	}
	return int(code) - 0x50
}

func unhexed(s string) []byte {
	b, _ := hex.DecodeString(s)
	return b
}

// modelProgram is Program by patterns.
func modelProgram(s []byte) (int, []byte, bool) {
	m := program.FindStringSubmatch(hex.EncodeToString(s))
	if m == nil {
		return 0, nil, false
	}
	push := unhexed(m[3])
	if len(push) < 2 || len(push) > 40 || int(unhexed(m[2])[0]) != len(push) {
		return 0, nil, false
	}
	return low(unhexed(m[1])[0]), push, true
}

// modelMulti returns the parts of the form Multi by patterns.
func modelMulti(digits string) [][]byte {
	f := multi.FindStringSubmatch(digits)
	if f == nil {
		return nil
	}
	m, n := low(unhexed(f[1])[0]), low(unhexed(f[3])[0])
	if len(f[2]) != n*68 || m > n {
		return nil
	}
	parts := [][]byte{{byte(m)}}
	for i := range n {
		parts = append(parts, unhexed(f[2][i*68+2:(i+1)*68]))
	}
	return parts
}

// modelKind is Kind by patterns.
func modelKind(s []byte) (int, [][]byte) {
	digits := hex.EncodeToString(s)
	if m := keyHash.FindStringSubmatch(digits); m != nil {
		return 1, [][]byte{unhexed(m[1])}
	}
	if m := scriptHash.FindStringSubmatch(digits); m != nil {
		return 2, [][]byte{unhexed(m[1])}
	}
	version, push, ok := modelProgram(s)
	switch {
	case ok && version == 0 && len(push) == 20:
		return 3, [][]byte{push}
	case ok && version == 0 && len(push) == 32:
		return 4, [][]byte{push}
	}
	if parts := modelMulti(digits); parts != nil {
		return 5, parts
	}
	if m := data.FindStringSubmatch(digits); m != nil && modelPushes(unhexed(m[1])) {
		return 6, [][]byte{unhexed(m[1])}
	}
	if ok {
		return 7, [][]byte{{byte(version)}, push}
	}
	return 0, nil
}

// expectModel: Parse, Pushes, Kind and Program of a script are those of the models.
func expectModel(t *testing.T, s []byte) {
	t.Helper()
	wantOps, wantErr := modelParse(s)
	if ops, err := script.Parse(s); err != wantErr || !slices.EqualFunc(ops, wantOps, sameOp) {
		t.Fatalf("Parse(%x) = %x, error %d; want %x, %d", s, ops, err, wantOps, wantErr)
	}
	if got, want := script.Pushes(s), modelPushes(s); got != want {
		t.Fatalf("Pushes(%x) = %v", s, got)
	}
	kind, parts := modelKind(s)
	expectKind(t, s, kind, parts...)
}

// expectKind: a script has this form and these parts, and is a witness program if the form says so.
func expectKind(t *testing.T, s []byte, kind int, parts ...[]byte) {
	t.Helper()
	got, gotParts := script.Kind(s)
	if got != kind || !slices.EqualFunc(gotParts, parts, bytes.Equal) {
		t.Fatalf("Kind(%x) = %d, %x; want %d, %x", s, got, gotParts, kind, parts)
	}
	version, push := 0, []byte(nil)
	switch kind {
	case script.WitnessKey, script.WitnessScript:
		push = parts[0]
	case script.Witness:
		version, push = int(parts[0][0]), parts[1]
	}
	v, p, ok := script.Program(s)
	if ok != (push != nil) || v != version || !bytes.Equal(p, push) {
		t.Fatalf("Program(%x) = %d, %x, %v; want %d, %x", s, v, p, ok, version, push)
	}
}
