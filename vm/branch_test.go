package vm_test

import (
	"testing"
)

func TestP13_1Branches(t *testing.T) {
	for _, a := range []act{
		{"63 52 68", "01", "02"}, {"63 52 68", ".", ""}, {"64 52 68", "01", ""}, {"64 52 68", ".", "02"},
		{"63 52 67 53 68", "01", "02"}, {"63 52 67 53 68", ".", "03"}, {"64 52 67 53 68", "01", "03"}, {"64 52 67 53 68", ".", "02"},
		{"63 68 52", "01", "02"}, {"63 68 52", ".", "02"}, {"63 67 68", ".", ""}, {"63 67 68 55", "01", "05"},
		{"51 63 52 67 53 68 54", "", "02 04"}, {"00 63 52 67 53 68 54", "", "03 04"},
		// The item is popped, and what lies below remains.
		{"63 68", "07 01", "07"}, {"64 68", "07 01", "07"}, {"63 75 68", "07 01", ""}, {"63 75 68", "07 .", "07"},
		// Truth.
		{"63 52 67 53 68", "80", "03"}, {"63 52 67 53 68", "00", "03"}, {"63 52 67 53 68", "0080", "03"}, {"63 52 67 53 68", "8000", "02"}, {"63 52 67 53 68", "000000000080", "03"}, {"63 52 67 53 68", "81", "02"}, {"63 52 67 53 68", "0000000001", "02"},
		{"64 52 67 53 68", "80", "02"}, {"64 52 67 53 68", "0000", "02"}, {"64 52 67 53 68", "0080", "02"}, {"64 52 67 53 68", "8000", "03"}, {"64 52 67 53 68", "02", "03"},
	} {
		expectText(t, a)
	}
}

// TestP13_1Unpaired: what begins without an end, and what ends or changes without a beginning, fails.
func TestP13_1Unpaired(t *testing.T) {
	for _, s := range []string{"63", "64", "67", "68", "65", "66", "63 67", "64 67", "63 52", "67 68", "68 63", "63 68 68", "63 68 67", "63 67 68 68", "63 63 68", "63 64 68", "63 67 67", "52 68", "52 67 53", "63 63 68 67", "67 63 68"} {
		for _, stack := range []string{"01 01 01", ". . .", ". 01 .", "01 . 01"} {
			expectText(t, act{s, stack, fails})
		}
	}
	for _, s := range []string{"63 68", "64 68", "63 67 68", "51 63 68 63 68"} {
		expectText(t, act{s, "", fails})
	}
	expectText(t, act{"51 63 63 68 68", "", fails})
	expectText(t, act{"00 63 63 68 68", "", ""})
	expectText(t, act{"51 64 64 68 68", "", ""})
}

// TestP13_1SeveralElse: each 67 changes which operations are executed.
func TestP13_1SeveralElse(t *testing.T) {
	for _, a := range []act{
		{"63 52 67 53 67 54 68", "01", "02 04"}, {"63 52 67 53 67 54 68", ".", "03"},
		{"63 52 67 53 67 54 67 55 68", "01", "02 04"}, {"63 52 67 53 67 54 67 55 68", ".", "03 05"},
		{"64 52 67 53 67 54 68", "01", "03"}, {"63 67 67 67 52 68", "01", ""}, {"63 67 67 67 52 68", ".", "02"}, {"63 67 67 52 68", "01", "02"},
		{"63 6a 67 67 6a 67 68", ".", ""},
		// Within a branch that isn't executed they change nothing.
		{"63 63 52 67 53 67 54 68 55 67 56 68", ".", "06"}, {"63 63 52 67 53 67 54 68 55 67 56 68", "01 01", "02 04 05"}, {"63 63 52 67 53 67 54 68 55 67 56 68", ". 01", "03 05"},
	} {
		expectText(t, a)
	}
}

func TestP13_1Nested(t *testing.T) {
	for _, a := range []act{
		{"63 63 52 67 53 68 67 63 54 67 55 68 68", "01 01", "02"}, {"63 63 52 67 53 68 67 63 54 67 55 68 68", ". 01", "03"},
		{"63 63 52 67 53 68 67 63 54 67 55 68 68", "01 .", "04"}, {"63 63 52 67 53 68 67 63 54 67 55 68 68", ". .", "05"},
		{"64 63 52 67 53 68 67 64 54 67 55 68 68", "01 01", "05"}, {"64 63 52 67 53 68 67 64 54 67 55 68 68", ". 01", "04"},
		// Within what isn't executed nothing is popped, and everything up to the end is not executed.
		{"63 63 63 6a 67 6a 68 67 6a 68 6a 68", ".", ""}, {"63 63 63 6a 67 6a 68 67 6a 68 6a 67 52 68", ".", "02"}, {"63 64 6a 68 64 6a 67 6a 68 68", "09 .", "09"},
		{"51 63 00 63 51 63 52 67 53 68 67 54 68 55 68", "", "04 05"}, {"51 63 51 63 00 63 52 67 53 68 67 54 68 55 68", "", "03 05"},
		{"63 00 63 67 00 63 67 52 68 68 68", "01", "02"}, {"63 52 63 67 53 68 67 6a 68 54", "01", "04"},
	} {
		expectText(t, a)
	}
	deep := func(n int) []byte { return join(times(n, "5163"), times(n, "68")) }
	expectRun(t, deep(100), nil, bare())
	expectFail(t, deep(101), nil, bare())
	expectRun(t, join(times(50, "5163 0063"), times(100, "68"), []byte{0x52}), nil, bare(), []byte{2})
	expectRun(t, join(times(30, "5163"), []byte{0x52}, times(30, "67 53 68"), []byte{0x54}), nil, bare(), []byte{2}, []byte{4})
	expectFail(t, join(times(30, "5163"), times(29, "68")), nil, bare())
	expectFail(t, join(times(30, "0063"), times(31, "68")), nil, bare())
}

// TestP13_1NeverAllowed: 65 and 66 fail wherever they stand; all others fail only where they are executed.
func TestP13_1NeverAllowed(t *testing.T) {
	for _, s := range []string{"65", "66", "00 63 65 68", "00 63 66 68", "51 63 67 65 68", "51 64 66 68", "00 63 51 63 65 68 68", "00 63 00 63 67 66 68 68", "51 63 65 68", "00 63 67 66 68", "00 63 68 65", "65 6a"} {
		expectText(t, act{s, "", fails})
		expectText(t, act{s, "01 01 01", fails})
	}
	for _, s := range []string{"6a", "62", "7e", "69", "50", "ab", "ff", "ba"} {
		expectText(t, act{"00 63 " + s + " 68", "", ""})
		expectText(t, act{"00 63 67 " + s + " 68", "", fails})
		expectText(t, act{"51 63 " + s + " 67 68", "", fails})
		expectText(t, act{"51 63 67 " + s + " 68 52", "", "02"})
		expectText(t, act{"00 63 51 63 " + s + " 68 67 52 68", "", "02"})
	}
}
