package hdkey_test

import (
	"slices"
	"strings"
	"testing"

	"strongbox/api"
	"strongbox/hdkey"
)

// paths holds ParsePath against an answer.
func paths(t *testing.T, s string, want []uint32, wantErr api.Errno) {
	t.Helper()
	got, err := hdkey.ParsePath(s)
	if !slices.Equal(got, want) || err != wantErr {
		t.Errorf("ParsePath(%.60q) = %v, error %d, want %v, error %d", s, got, err, want, wantErr)
	}
}

func TestP6_3Path(t *testing.T) {
	for want, path := range map[string][]uint32{
		"m":                  nil,
		"m/0":                {0},
		"m/0'":               {hdkey.Hard},
		"m/0'/1/2'":          {hdkey.Hard, 1, hdkey.Hard + 2},
		"m/10/200/3000":      {10, 200, 3000},
		"m/2147483647":       {hdkey.Hard - 1},
		"m/2147483647'":      {1<<32 - 1},
		"m/44'/0'/0'/1/1000": {hdkey.Hard + 44, hdkey.Hard, hdkey.Hard, 1, 1000},
	} {
		if got := hdkey.Path(path...); got != want {
			t.Errorf("Path(%v) = %s, want %s", path, got, want)
		}
		paths(t, want, path, api.OK)
	}
	if hdkey.Path([]uint32{}...) != "m" {
		t.Errorf("Path of an empty list = %s", hdkey.Path([]uint32{}...))
	}
}

func TestP6_3ParsePath(t *testing.T) {
	three := []uint32{hdkey.Hard, 1, hdkey.Hard + 2}
	for _, s := range []string{"m/0'/1/2'", "m/0h/1/2h", "m/0H/1/2H", "m/0h/1/2'", "0'/1/2'", "0h/1/2H", "0H/1/2h"} {
		paths(t, s, three, api.OK)
	}
	paths(t, "5", []uint32{5}, api.OK)
	paths(t, "0", []uint32{0}, api.OK)
	paths(t, "m/0/0/0", []uint32{0, 0, 0}, api.OK)
	paths(t, "2147483647H/2147483647", []uint32{1<<32 - 1, hdkey.Hard - 1}, api.OK)
	paths(t, "m", nil, api.OK)
}

func TestP6_3ThereAndBackPaths(t *testing.T) {
	all := numbers()
	for i := range all {
		for j := i; j <= len(all); j++ {
			s := hdkey.Path(all[i:j]...)
			paths(t, s, all[i:j], api.OK)
			if j > i {
				paths(t, strings.TrimPrefix(s, "m/"), all[i:j], api.OK)
			}
			paths(t, strings.ReplaceAll(s, "'", "h"), all[i:j], api.OK)
			paths(t, strings.ReplaceAll(s, "'", "H"), all[i:j], api.OK)
		}
	}
}

func TestP6_3PathForms(t *testing.T) {
	for _, s := range []string{
		"", "/", "m/", "//", "m//", "m//1", "m/1/", "m/1//2", "/1", "/m", "/m/1", "1/", "1//2",
		"m1", "mm", "m/m", "m/m/1", "m/1/m", "1/m", "M", "M/1", "n/1", "m.1", "m/1.2", "m\\1",
		"m/00", "m/01", "m/007", "00", "01/2", "m/1/02", "m/00'", "m/01h",
		"m/'", "m/h", "m/H", "'", "h", "H", "m/1/'", "m'", "mh", "m'/1",
		"m/1''", "m/1hh", "m/1'h", "m/'1", "m/h1", "m/1'1", "m/1x", "m/x", "m/1p",
		"m/-1", "m/+1", "m/ 1", "m/1 ", " m/1", "m/1\n", "m/1_0", "m/0x1", "m/1e3", "m/\u0661", "m/1\u2019", "m/1\x00",
		strings.Repeat("/", 300), strings.Repeat("m/", 300),
	} {
		paths(t, s, nil, api.ErrForm)
	}
}

func TestP6_3PathSizes(t *testing.T) {
	for _, s := range []string{
		"m/2147483648", "2147483648", "m/2147483648'", "m/2147483648h", "m/1/2147483648H/2", "m/4294967295", "m/4294967296",
		"m/4294967297", "m/9999999999", "m/10000000000", "m/18446744073709551615", "m/18446744073709551616", "m/18446744073709551617",
		"m/" + strings.Repeat("9", 1000), "m/1" + strings.Repeat("0", 100000) + "'",
	} {
		paths(t, s, nil, api.ErrSize)
	}
	// A form that is wrong anywhere is told instead.
	for _, s := range []string{"m/2147483648/x", "m/x/2147483648", "m/2147483648/", "m/2147483648/01", "m/02147483648", "m/2147483648''", "m/2147483648x"} {
		paths(t, s, nil, api.ErrForm)
	}
}

func TestP6_3PathCounts(t *testing.T) {
	most := make([]uint32, 255)
	for i := range most {
		most[i] = uint32(i) * 0x01010101
	}
	s := hdkey.Path(most...)
	paths(t, s, most, api.OK)
	paths(t, strings.TrimPrefix(s, "m/"), most, api.OK)
	paths(t, s+"/0", nil, api.ErrSize)
	paths(t, strings.TrimPrefix(s, "m/")+"/0", nil, api.ErrSize)
	paths(t, s+"/2147483648", nil, api.ErrSize)
	paths(t, s+"/0/", nil, api.ErrForm)
	paths(t, s+"/0/x", nil, api.ErrForm)
	paths(t, "m"+strings.Repeat("/1", 100000), nil, api.ErrSize)
	if got := hdkey.Path(append(most, 7)...); got != s+"/7" {
		t.Errorf("Path of 256 numbers = %s", got)
	}
}
