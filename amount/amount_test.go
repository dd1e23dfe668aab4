package amount_test

import (
	"math"
	"math/big"
	"testing"

	"strongbox/amount"
	"strongbox/api"
)

// edges returns amounts around all that matters, valid or not.
func edges() []int64 {
	return []int64{
		math.MinInt64, math.MinInt64 + 1, -api.MaxMoney - 1, -api.MaxMoney, -1000, -2, -1,
		0, 1, 2, 999, 1000, 1001, api.Coin - 1, api.Coin, api.Coin + 1, 12345678901, math.MaxInt32, math.MaxUint32 + 1,
		api.MaxMoney / 2, api.MaxMoney - 1, api.MaxMoney, api.MaxMoney + 1, 2 * api.MaxMoney,
		math.MaxInt64/2 + 1, math.MaxInt64 - api.MaxMoney, math.MaxInt64 - 1, math.MaxInt64,
	}
}

func plainValid(v int64) bool { return v >= 0 && v <= 2100000000000000 }

// plain returns a number that may be beyond an int64 as an amount.
func plain(n *big.Int) (int64, api.Errno) {
	if n.Sign() < 0 || n.Cmp(big.NewInt(api.MaxMoney)) > 0 {
		return 0, api.ErrRange
	}
	return n.Int64(), api.OK
}

// plainAdd is Add as the document says it.
func plainAdd(list ...int64) (int64, api.Errno) {
	sum := new(big.Int)
	for _, v := range list {
		sum.Add(sum, big.NewInt(v))
		if _, err := plain(sum); err != api.OK || !plainValid(v) {
			return 0, api.ErrRange
		}
	}
	return plain(sum)
}

// expectAdd holds Add against the plain one.
func expectAdd(t *testing.T, list ...int64) {
	t.Helper()
	want, wantErr := plainAdd(list...)
	if got, err := amount.Add(list...); got != want || err != wantErr {
		t.Errorf("Add(%d) = %d, error %d; want %d, %d", list, got, err, want, wantErr)
	}
}

func TestP4_1Valid(t *testing.T) {
	for _, v := range edges() {
		if amount.Valid(v) != plainValid(v) {
			t.Errorf("Valid(%d) = %v", v, !plainValid(v))
		}
	}
	if !amount.Valid(0) || !amount.Valid(2100000000000000) || amount.Valid(2100000000000001) || amount.Valid(-1) {
		t.Errorf("the ends of what is valid")
	}
}

func TestP4_1Add(t *testing.T) {
	expectAdd(t)
	for _, a := range edges() {
		expectAdd(t, a)
		for _, b := range edges() {
			expectAdd(t, a, b)
			for _, c := range edges() {
				expectAdd(t, a, b, c)
			}
		}
	}
	many := make([]int64, 21000)
	for i := range many {
		many[i] = 1000 * api.Coin
	}
	expectAdd(t, many...)
	expectAdd(t, append(many, 0)...)
	expectAdd(t, append(many, 1)...)
	expectAdd(t, append(many, 1, -1)...)
	if sum, err := amount.Add(many...); sum != api.MaxMoney || err != api.OK {
		t.Errorf("Add of 21000 times 1000 coins: %d, error %d", sum, err)
	}
}

func TestP4_1AddKeepsItsArgument(t *testing.T) {
	list := []int64{1, 2, 3, -1}
	amount.Add(list[:3]...)
	amount.Add(list...)
	for i, v := range []int64{1, 2, 3, -1} {
		if list[i] != v {
			t.Errorf("the amount %d was changed to %d", v, list[i])
		}
	}
}

func TestP4_1Sub(t *testing.T) {
	for _, a := range edges() {
		for _, b := range edges() {
			want, wantErr := plain(new(big.Int).Sub(big.NewInt(a), big.NewInt(b)))
			if !plainValid(a) || !plainValid(b) {
				want, wantErr = 0, api.ErrRange
			}
			if got, err := amount.Sub(a, b); got != want || err != wantErr {
				t.Errorf("Sub(%d, %d) = %d, error %d; want %d, %d", a, b, got, err, want, wantErr)
			}
		}
	}
}

// sizes returns sizes around all that matters.
func sizes() []int {
	return []int{
		math.MinInt, -api.MaxBlock, -2, -1, 0, 1, 2, 3, 7, 34, 249, 250, 251, 499, 500, 999, 1000, 1001, 1999, 2000, 2001,
		99999, 100000, 999999, api.MaxBlock - 1, api.MaxBlock, api.MaxBlock + 1, 2 * api.MaxBlock, math.MaxInt32, math.MaxInt,
	}
}

// rates returns the edges, and amounts around those whose fee for a size is the greatest one.
func rates(size int) []int64 {
	all := edges()
	if size > 0 {
		most := int64(api.MaxMoney / size * 1000)
		all = append(all, most-1000, most-1, most, most+1, most+1000, api.MaxMoney/1000*int64(size))
	}
	return all
}

// cost is what Fee should answer for a rate and a size, or Rate for a fee and a size.
type cost struct {
	n    int64
	size int
	want int64
	err  api.Errno
}

func (c cost) expect(t *testing.T, name string, call func(n int64, size int) (int64, api.Errno)) {
	t.Helper()
	if got, err := call(c.n, c.size); got != c.want || err != c.err {
		t.Errorf("%s(%d, %d) = %d, error %d; want %d, %d", name, c.n, c.size, got, err, c.want, c.err)
	}
}

// plainFee is Fee as the document says it.
func plainFee(rate int64, size int) (int64, api.Errno) {
	if size < 0 || size > 1000000 {
		return 0, api.ErrArg
	}
	if !plainValid(rate) {
		return 0, api.ErrRange
	}
	n := new(big.Int).Mul(big.NewInt(rate), big.NewInt(int64(size)))
	n.Add(n, big.NewInt(999))
	return plain(n.Div(n, big.NewInt(1000)))
}

// plainRate is Rate as the document says it.
func plainRate(fee int64, size int) (int64, api.Errno) {
	if size < 1 || size > 1000000 {
		return 0, api.ErrArg
	}
	if !plainValid(fee) {
		return 0, api.ErrRange
	}
	n := new(big.Int).Mul(big.NewInt(fee), big.NewInt(1000))
	return plain(n.Div(n, big.NewInt(int64(size))))
}

func TestP4_2Fee(t *testing.T) {
	for _, size := range sizes() {
		for _, rate := range rates(size) {
			want, err := plainFee(rate, size)
			cost{rate, size, want, err}.expect(t, "Fee", amount.Fee)
		}
	}
}

func TestP4_2FeeExamples(t *testing.T) {
	cases := []cost{
		{1000, 250, 250, api.OK},
		{1001, 250, 251, api.OK},
		{1004, 250, 251, api.OK},
		{1005, 250, 252, api.OK},
		{1, 1, 1, api.OK},
		{1, 0, 0, api.OK},
		{0, api.MaxBlock, 0, api.OK},
		{api.MaxMoney, 0, 0, api.OK},
		{api.MaxMoney, 1000, api.MaxMoney, api.OK},
		{api.MaxMoney, 999, 2097900000000000, api.OK},
		{api.MaxMoney, 1001, 0, api.ErrRange},
		{api.MaxMoney, api.MaxBlock, 0, api.ErrRange},
		{2100000000000, api.MaxBlock, api.MaxMoney, api.OK},
		{2100000000001, api.MaxBlock, 0, api.ErrRange},
		// Times the size just beyond 2^63 and 2^64.
		{9223372036855, api.MaxBlock, 0, api.ErrRange},
		{18446744073710, api.MaxBlock, 0, api.ErrRange},
		{api.MaxMoney + 1, 0, 0, api.ErrRange},
		{-1, 0, 0, api.ErrRange},
		// Two errors each.
		{-1, -1, 0, api.ErrArg},
		{api.MaxMoney + 1, api.MaxBlock + 1, 0, api.ErrArg},
		{api.MaxMoney, api.MaxBlock + 1, 0, api.ErrArg},
	}
	for _, c := range cases {
		c.expect(t, "Fee", amount.Fee)
	}
}

func TestP4_2Rate(t *testing.T) {
	for _, size := range sizes() {
		for _, fee := range rates(size) {
			want, err := plainRate(fee, size)
			cost{fee, size, want, err}.expect(t, "Rate", amount.Rate)
		}
	}
}

func TestP4_2RateExamples(t *testing.T) {
	cases := []cost{
		{251, 250, 1004, api.OK},
		{251, 251, 1000, api.OK},
		{251, 252, 996, api.OK},
		{0, 1, 0, api.OK},
		{1, 1, 1000, api.OK},
		{1, 1001, 0, api.OK},
		{api.MaxMoney, 1000, api.MaxMoney, api.OK},
		{api.MaxMoney, api.MaxBlock, 2100000000000, api.OK},
		{api.MaxMoney, 999, 0, api.ErrRange},
		{2100000000000, 1, api.MaxMoney, api.OK},
		{2100000000001, 1, 0, api.ErrRange},
		{api.MaxMoney + 1, 1000000, 0, api.ErrRange},
		{-1, 1, 0, api.ErrRange},
		// Two errors each.
		{-1, 0, 0, api.ErrArg},
		{api.MaxMoney + 1, api.MaxBlock + 1, 0, api.ErrArg},
		{api.MaxMoney, -1, 0, api.ErrArg},
	}
	for _, c := range cases {
		c.expect(t, "Rate", amount.Rate)
	}
}

// TestP4_2FeeAndRate: the fee for a rate has at least that rate, and one less has not; the rate of a fee costs no more, and one greater does.
func TestP4_2FeeAndRate(t *testing.T) {
	for _, size := range []int{1, 2, 3, 110, 250, 999, 1000, 1001, 4000, api.MaxBlock} {
		for n := int64(1); n < 3000; n += 7 {
			fee, err := amount.Fee(n, size)
			back, err2 := amount.Rate(fee, size)
			less, err3 := amount.Rate(fee-1, size)
			if err != api.OK || err2 != api.OK || err3 != api.OK || back < n || less >= n {
				t.Errorf("the rate %d for %d bytes costs %d, which is a rate of %d", n, size, fee, back)
			}
			rate, err := amount.Rate(n, size)
			cost, err2 := amount.Fee(rate, size)
			more, err3 := amount.Fee(rate+1, size)
			if err != api.OK || err2 != api.OK || err3 != api.OK || cost > n || more <= n {
				t.Errorf("the fee %d for %d bytes is a rate of %d, which costs %d", n, size, rate, cost)
			}
		}
	}
}

func TestP4_4Dust(t *testing.T) {
	for size, want := range map[int]int64{
		math.MinInt: 0, -api.MaxBlock: 0, -2: 0, -1: 0,
		0: 444, 1: 447, 2: 450, 31: 537, 34: 546, 1000: 3444,
		999999: 3000441, api.MaxBlock: 3000444, api.MaxBlock + 1: 3000444, 1 << 32: 3000444, math.MaxInt / 2: 3000444, math.MaxInt: 3000444,
	} {
		if got := amount.Dust(size); got != want {
			t.Errorf("Dust(%d) = %d, want %d", size, got, want)
		}
	}
}
