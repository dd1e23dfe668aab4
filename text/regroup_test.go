package text_test

import (
	"fmt"
	"math"
	"strconv"
	"strings"
	"testing"

	"strongbox/api"
	"strongbox/text"
)

// plainRegroup is Regroup as the document says it, on a text of bits.
func plainRegroup(data []byte, from, to int, pad bool) ([]byte, api.Errno) {
	if from < 1 || from > 8 || to < 1 || to > 8 {
		return nil, api.ErrArg
	}
	all := ""
	for _, v := range data {
		one := fmt.Sprintf("%0*b", from, v)
		if len(one) > from {
			return nil, api.ErrForm
		}
		all += one
	}
	rest := len(all) % to
	if !pad && (rest >= from || strings.Contains(all[len(all)-rest:], "1")) {
		return nil, api.ErrForm
	}
	if pad && rest > 0 {
		all += strings.Repeat("0", to-rest)
	}
	var out []byte
	for ; len(all) >= to; all = all[to:] {
		v, _ := strconv.ParseUint(all[:to], 2, 8)
		out = append(out, byte(v))
	}
	return out, api.OK
}

// expectRegroup holds Regroup against the plain one, and returns its answer.
func expectRegroup(t *testing.T, data []byte, from, to int, pad bool) ([]byte, api.Errno) {
	t.Helper()
	want, wantErr := plainRegroup(data, from, to, pad)
	got, err := text.Regroup(data, from, to, pad)
	expectBytes(t, fmt.Sprintf("Regroup(%x, %d, %d, %v)", data, from, to, pad), got, err, want, wantErr)
	return got, err
}

// regroupLists returns lists of values of any width, some of them with low bits 0 at the end.
func regroupLists() [][]byte {
	lists := [][]byte{nil, {}}
	for n := 1; n <= 17; n++ {
		for _, width := range []int{1, 3, 5, 8} {
			list := message(n)
			for i := range list {
				list[i] &= 1<<width - 1
			}
			zero, least, most := make([]byte, n), make([]byte, n), make([]byte, n)
			least[n-1], most[n-1] = 1, 1<<(width-1)
			lists = append(lists, list, zero, least, most)
		}
	}
	return lists
}

func TestP3_2RegroupAllWidths(t *testing.T) {
	for from := 0; from <= 9; from++ {
		for to := 0; to <= 9; to++ {
			for _, data := range regroupLists() {
				expectRegroup(t, data, from, to, true)
				expectRegroup(t, data, from, to, false)
			}
		}
	}
}

func TestP3_2RegroupThereAndBack(t *testing.T) {
	for from := 1; from <= 8; from++ {
		for n := range 40 {
			data := message(n)
			for i := range data {
				data[i] &= 1<<from - 1
			}
			for to := 1; to <= from; to++ {
				padded, err := text.Regroup(data, from, to, true)
				if err != api.OK {
					t.Fatalf("from %d to %d: error %d", from, to, err)
				}
				back, err := text.Regroup(padded, to, from, false)
				expectBytes(t, fmt.Sprint("back from ", to, " to ", from), back, err, data, api.OK)
			}
		}
	}
}

func TestP3_2RegroupValues(t *testing.T) {
	for from := 1; from < 8; from++ {
		for to := 1; to <= 8; to++ {
			for v := range 256 {
				for _, data := range [][]byte{{byte(v)}, {0, byte(v)}, {byte(v), 0}} {
					_, err := expectRegroup(t, data, from, to, true)
					if beyond := v >= 1<<from; beyond != (err == api.ErrForm) {
						t.Errorf("%d of %d bits: error %d", v, from, err)
					}
				}
			}
		}
	}
}

func TestP3_2RegroupWidthsThatMayNotBe(t *testing.T) {
	for _, width := range []int{math.MinInt, -8, -1, 0, 9, 64, math.MaxInt} {
		for _, data := range [][]byte{nil, {1}, {255}} {
			for _, pad := range []bool{false, true} {
				for _, widths := range [][2]int{{width, 5}, {5, width}, {width, width}} {
					got, err := text.Regroup(data, widths[0], widths[1], pad)
					expectBytes(t, fmt.Sprint("Regroup of widths ", widths), got, err, nil, api.ErrArg)
				}
			}
		}
	}
}
