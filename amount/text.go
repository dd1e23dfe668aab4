package amount

import (
	"slices"
	"strconv"
	"strings"

	"strongbox/api"
)

const (
	// zeros are as many as there may be digits behind the point.
	zeros = "00000000"
	// mostWhole is the greatest number of digits ahead of the point of a valid amount.
	mostWhole = 8
)

// Format returns an amount in coins, with eight digits behind the point.
func Format(v int64) string {
	if !Valid(v) {
		return "-"
	}
	part := strconv.FormatInt(v%api.Coin, 10)
	return strconv.FormatInt(v/api.Coin, 10) + "." + zeros[len(part):] + part
}

// Parse returns the amount of a text in coins.
func Parse(s string) (int64, api.Errno) {
	whole, part, point := strings.Cut(s, ".")
	if !isWhole(whole) || point && !isPart(part) {
		return 0, api.ErrForm
	}
	// No zero leads, so that more digits stand for more than any valid amount.
	if len(whole) > mostWhole {
		return 0, api.ErrRange
	}
	return checked(number(whole + part + zeros[len(part):]))
}

func isWhole(s string) bool {
	return isDigits(s) && (len(s) == 1 || s[0] != '0')
}

func isPart(s string) bool { return isDigits(s) && len(s) <= len(zeros) }

// isDigits: is it one digit or more, and nothing else?
func isDigits(s string) bool {
	for i := range len(s) {
		if s[i] < '0' || s[i] > '9' {
			return false
		}
	}
	return s != ""
}

// number returns what digits stand for, as long as that is within an int64.
func number(digits string) int64 {
	n, worth := int64(0), int64(1)
	for _, d := range slices.Backward([]byte(digits)) {
		n += int64(d-'0') * worth
		worth *= 10
	}
	return n
}
