package hdkey

import (
	"strconv"
	"strings"

	"strongbox/api"
)

const (
	// mostSteps is how many numbers a path that is read may have.
	mostSteps = 255
	// hardMarks are what may follow a number, to which Hard is added then.
	hardMarks = "'hH"
)

// Path returns steps as text.
func Path(path ...uint32) string {
	out := []byte("m")
	for _, n := range path {
		out = append(out, '/')
		out = strconv.AppendUint(out, uint64(n%Hard), 10)
		if n >= Hard {
			out = append(out, '\'')
		}
	}
	return string(out)
}

// ParsePath returns the steps that a text tells.
func ParsePath(s string) ([]uint32, api.Errno) {
	if s == "m" {
		return nil, api.OK
	}
	var path []uint32
	size := api.OK
	for part := range strings.SplitSeq(strings.TrimPrefix(s, "m/"), "/") {
		n, err := parseStep(part)
		switch {
		case err == api.ErrForm:
			return nil, err
		case err != api.OK || len(path) == mostSteps:
			// What follows may be of another form, which is the lesser error here.
			size = api.ErrSize
		default:
			path = append(path, n)
		}
	}
	if size != api.OK {
		return nil, size
	}
	return path, api.OK
}

// parseStep returns a number of a path: ErrForm if it is not of the form, ErrSize if it is too great.
func parseStep(s string) (uint32, api.Errno) {
	digits, mark := s, uint32(0)
	if end := len(s) - 1; end >= 0 && strings.IndexByte(hardMarks, s[end]) >= 0 {
		digits, mark = s[:end], Hard
	}
	if !isNumber(digits) {
		return 0, api.ErrForm
	}
	n, err := strconv.ParseUint(digits, 10, 31)
	if err != nil {
		return 0, api.ErrSize
	}
	return mark + uint32(n), api.OK
}

// isNumber: are there digits alone, without leading zeros?
func isNumber(s string) bool {
	for i := range len(s) {
		if s[i] < '0' || s[i] > '9' {
			return false
		}
	}
	return s == "0" || s != "" && s[0] != '0'
}
