package desc

import (
	"slices"
	"strconv"
	"strings"

	"strongbox/api"
	"strongbox/curve"
	"strongbox/hdkey"
	"strongbox/text"
)

const (
	mostText  = 4000
	mostKeys  = 16
	mostSteps = 20

	// sumMark stands before a checksum.
	sumMark = "#"
)

// fault is what parsing something that is not a descriptor panics with.
type fault struct{}

// insist abandons the parsing if something is not as it is in a descriptor.
func insist(ok bool) {
	if !ok {
		panic(fault{})
	}
}

// Parse returns the descriptor of a text.
func Parse(s string) (*Desc, api.Errno) {
	if len(s) > mostText {
		return nil, api.ErrSize
	}
	s, err := withoutSum(s)
	if err != api.OK {
		return nil, err
	}
	return parse(s)
}

// withoutSum returns what precedes the checksum, if there is one.
func withoutSum(s string) (string, api.Errno) {
	front, letters, found := strings.Cut(s, sumMark)
	if !found {
		return s, api.OK
	}
	sum, err := text.Checksum(front)
	if err != api.OK {
		return "", err
	}
	if letters != sum {
		return "", api.ErrSum
	}
	return front, api.OK
}

func parse(s string) (d *Desc, err api.Errno) {
	defer func() {
		switch p := recover().(type) {
		case nil:
		case fault:
			d, err = nil, api.ErrForm
		default:
			panic(p)
		}
	}()
	return readDesc(s), api.OK
}

func readDesc(s string) *Desc {
	end := strings.LastIndexByte(s, '(')
	insist(end >= 0 && isOpening(s[:end]))
	d := &Desc{names: strings.Split(s[:end], "(")}
	inside, closed := strings.CutSuffix(s[end+1:], d.closing())
	insist(closed)
	list := strings.Split(inside, ",")
	if strings.HasSuffix(s[:end], multi) {
		d.m, list = readNumber(list[0]), list[1:]
		insist(1 <= d.m && d.m <= len(list) && len(list) <= mostKeys)
	} else {
		insist(len(list) == 1)
	}
	for _, one := range list {
		d.keys = append(d.keys, readKey(one))
	}
	return d
}

// isOpening: is this what stands before the innermost parentheses of a descriptor?
func isOpening(s string) bool {
	switch strings.Replace(s, sortedMulti, multi, 1) {
	case pkh, wpkh, "sh(wpkh", multi, "sh(multi", "wsh(multi", "sh(wsh(multi":
		return true
	}
	return false
}

func readNumber(s string) int {
	n, err := strconv.Atoi(s)
	// A sign, or a leading zero, is not written.
	insist(err == nil && strconv.Itoa(n) == s)
	return n
}

func readKey(s string) key {
	if pub, err := text.FromHex(s); err == api.OK && text.Hex(pub) == s && curve.IsPublic(pub) {
		return aloneKey([33]byte(pub))
	}
	parts := strings.Split(s, "/")
	root, err := hdkey.Parse(parts[0])
	insist(err == api.OK)
	index, numbers := readIndex(parts[1:])
	steps := readSteps(numbers)
	hard := index == hardIndex || slices.ContainsFunc(steps, func(n uint32) bool { return n >= hdkey.Hard })
	insist(root.Private() || !hard)
	return newKey(root, steps, index)
}

// readIndex returns which index the parts of a path end with, and the parts before it.
func readIndex(parts []string) (int, []string) {
	if len(parts) == 0 {
		return noIndex, nil
	}
	last := len(parts) - 1
	switch parts[last] {
	case "*":
		return softIndex, parts[:last]
	case "*'", "*h", "*H":
		return hardIndex, parts[:last]
	}
	return noIndex, parts
}

func readSteps(parts []string) []uint32 {
	insist(len(parts) <= mostSteps)
	var steps []uint32
	for _, part := range parts {
		// The letter m is a path as well, but one without a step.
		path, err := hdkey.ParsePath(part)
		insist(err == api.OK && len(path) == 1)
		steps = append(steps, path[0])
	}
	return steps
}
