package play_test

import (
	"bytes"
	"fmt"
	"slices"
	"testing"

	"strongbox/disk"
	"strongbox/play"
)

// roomy returns bytes with spare capacity behind them, in which other bytes are.
func roomy(b []byte) []byte {
	return append(bytes.Clone(b), 0xab, 0xab, 0xab)[:len(b)]
}

// TestP27_5Script: a script isn't changed, and its steps share nothing with it, nor with one another.
func TestP27_5Script(t *testing.T) {
	s := roomy(script("01 02 41 42", "0A 03 02 43 44", "02 02 45 46", "03 00", "00 00", "0A 01 01 47"))
	before := bytes.Clone(s[:cap(s)])
	one, two := play.Steps(s), play.Steps(s)
	want := fmt.Sprint(two)
	play.Run(disk.New(300), s)
	if !bytes.Equal(s[:cap(s)], before) {
		t.Errorf("the script was changed")
	}
	for i := range s[:cap(s)] {
		s[:cap(s)][i] = 0xee
	}
	if fmt.Sprint(one) != want || len(one) != 6 {
		t.Errorf("the steps have changed with the script: %v", one)
	}
	for i := range one {
		data := one[i].Data
		for j := range data[:cap(data)] {
			data[:cap(data)][j] = byte(i)
		}
	}
	if fmt.Sprint(two) != want {
		t.Errorf("two lists of steps share memory")
	}
	for i, x := range one {
		if !bytes.Equal(x.Data, bytes.Repeat([]byte{byte(i)}, len(x.Data))) {
			t.Errorf("two steps share memory")
		}
	}
	list := one[:cap(one)]
	list[0].Code = 9
	if fmt.Sprint(two) != want {
		t.Errorf("two lists of steps share memory")
	}
}

// TestP27_5Bytes: a step isn't changed, and its bytes are new.
func TestP27_5Bytes(t *testing.T) {
	for _, n := range []int{0, 1, 5, 300, 2000, 2001, 5000} {
		s := play.Step{Code: 10, A: 3, Data: roomy(bytes.Repeat([]byte{7}, n))}
		before := bytes.Clone(s.Data[:cap(s.Data)])
		one, two := s.Bytes(), s.Bytes()
		want := bytes.Clone(two)
		for i := range one[:cap(one)] {
			one[:cap(one)][i] = 0xee
		}
		if !bytes.Equal(s.Data[:cap(s.Data)], before) {
			t.Errorf("%d bytes: the step was changed", n)
		}
		for i := range s.Data[:cap(s.Data)] {
			s.Data[:cap(s.Data)][i] = 0xdd
		}
		if !bytes.Equal(two, want) {
			t.Errorf("%d bytes: two results, or one and the step, share memory", n)
		}
	}
}

// TestP27_5Report: the lines of a report are new.
func TestP27_5Report(t *testing.T) {
	s := script("03 00 00 00 0E 0A 00 02 41 42")
	one, two := play.Run(disk.New(300), s), play.Run(disk.New(300), s)
	want := slices.Clone(two.Lines)
	for i := range one.Lines[:cap(one.Lines)] {
		one.Lines[:cap(one.Lines)][i] = "other"
	}
	if !slices.Equal(two.Lines, want) {
		t.Errorf("two reports share memory")
	}
	// A label that was passed is the disk's own.
	d := disk.New(300)
	play.Run(d, s)
	for i := range s {
		s[i] = 0xee
	}
	n := handOn(t, d).n
	if label := n.Labeled(n.Scripts()[0]); label != "AB" {
		t.Errorf("the label %q", label)
	}
}
