package amount_test

import (
	"fmt"
	"math/big"
	"regexp"
	"strings"
	"testing"

	"strongbox/amount"
	"strongbox/api"
)

// expectParse holds Parse of s against an answer.
func expectParse(t *testing.T, s string, want int64, wantErr api.Errno) {
	t.Helper()
	if got, err := amount.Parse(s); got != want || err != wantErr {
		t.Errorf("Parse(%.60q) = %d, error %d; want %d, %d", s, got, err, want, wantErr)
	}
}

// plainParse is Parse as the document says it.
func plainParse(s string) (int64, api.Errno) {
	if !regexp.MustCompile(`\A(0|[1-9][0-9]*)(\.[0-9]{1,8})?\z`).MatchString(s) {
		return 0, api.ErrForm
	}
	coins, ok := new(big.Rat).SetString(s)
	if !ok {
		return 0, api.ErrForm
	}
	return plain(new(big.Rat).Mul(coins, big.NewRat(api.Coin, 1)).Num())
}

func TestP4_3Format(t *testing.T) {
	for v, want := range map[int64]string{
		0: "0.00000000", 1: "0.00000001", 10: "0.00000010", 99999999: "0.99999999",
		100000000: "1.00000000", 100000001: "1.00000001", 123456789: "1.23456789", 1000000000: "10.00000000",
		2099999999999999: "20999999.99999999", 2100000000000000: "21000000.00000000",
		2100000000000001: "-", -1: "-", -100000000: "-",
	} {
		if got := amount.Format(v); got != want {
			t.Errorf("Format(%d) = %q, want %q", v, got, want)
		}
	}
	for _, v := range edges() {
		want := "-"
		if plainValid(v) {
			want = fmt.Sprintf("%d.%08d", v/api.Coin, v%api.Coin)
		}
		if got := amount.Format(v); got != want {
			t.Errorf("Format(%d) = %q, want %q", v, got, want)
		}
	}
}

func TestP4_3ThereAndBack(t *testing.T) {
	for v := int64(1); v <= api.MaxMoney; v = v*3 + 1 {
		for _, n := range []int64{v - 1, v, v + 1, api.MaxMoney - v, api.MaxMoney - v + 1} {
			expectParse(t, amount.Format(n), n, api.OK)
		}
	}
	for _, v := range edges() {
		if plainValid(v) {
			expectParse(t, amount.Format(v), v, api.OK)
		} else {
			expectParse(t, amount.Format(v), 0, api.ErrForm)
		}
	}
}

func TestP4_3Parse(t *testing.T) {
	for s, want := range map[string]int64{
		"0": 0, "0.0": 0, "0.00000000": 0, "0.5": 50000000, "0.50": 50000000, "0.05": 5000000, "0.00000001": 1,
		"1": 100000000, "1.2": 120000000, "1.23456789": 123456789, "10": 1000000000, "10.01": 1001000000,
		"9": 900000000, "90": 9000000000, "20999999.99999999": 2099999999999999,
		"21000000": api.MaxMoney, "21000000.0": api.MaxMoney, "21000000.00000000": api.MaxMoney,
	} {
		expectParse(t, s, want, api.OK)
	}
}

func TestP4_3ParseForms(t *testing.T) {
	forms := []string{
		"", ".", "0.", "1.", ".0", ".5", "..", "1..5", "1.2.3", "1.2.", ".1.2",
		"00", "01", "00.5", "01.5", "000", "0000000000", "021000000",
		"1.123456789", "0.000000000", "0.0000000001", "1." + strings.Repeat("0", 1000),
		"-", "-1", "+1", "-0", "1-", "1.-5", "1.+5", "1,5", "1 ", " 1", "1 000", "1\n", "1_000", "1e3", "0x1", "1.5e1", "a", "1a", "1.a", "٣", "１", "\x00", "1\x00", "\xff",
		// Beyond MaxMoney, and of another form, too.
		"21000000.000000010", "99999999999999999999.", "99999999999999999999.123456789", "099999999999999999999", "99999999999999999999x", "99999999999999999999.1x", "-99999999999999999999", strings.Repeat("9", 1000) + ",",
	}
	for _, s := range forms {
		expectParse(t, s, 0, api.ErrForm)
	}
}

func TestP4_3ParseRanges(t *testing.T) {
	ranges := []string{
		"21000000.00000001", "21000001", "21000000.1", "22000000", "30000000.5", "99999999", "99999999.99999999",
		"100000000", "210000000", "92233720368", "92233720368.54775807", "92233720368.54775808", "184467440737.09551616", "184467440737.09551617", "184467440738",
		"9223372036854775807", "18446744073709551616", "99999999999999999999999", "1" + strings.Repeat("0", 1000), strings.Repeat("9", 100000) + ".00000001",
	}
	for _, s := range ranges {
		expectParse(t, s, 0, api.ErrRange)
	}
}

// TestP4_3ParseAnyText has all short texts of some letters, and longer ones around the greatest amount.
func TestP4_3ParseAnyText(t *testing.T) {
	texts := []string{""}
	for i := 0; i < len(texts) && len(texts[i]) < 5; i++ {
		for _, letter := range "0129.-" {
			texts = append(texts, texts[i]+string(letter))
		}
	}
	for _, whole := range []string{"0", "20999999", "21000000", "21000001", "021000000", "210000000", "2100000000000000"} {
		for n := range 11 {
			for _, last := range []string{"", "0", "1", "9"} {
				texts = append(texts, whole+"."+strings.Repeat("0", n)+last, whole+strings.Repeat("0", n)+last)
			}
		}
	}
	for _, s := range texts {
		want, wantErr := plainParse(s)
		expectParse(t, s, want, wantErr)
	}
}
