package tx_test

import (
	"math"
	"slices"
	"testing"

	"strongbox/api"
	"strongbox/tx"
)

func expectCheck(t *testing.T, what string, x api.Tx, want api.Errno) {
	t.Helper()
	if err := tx.Check(x); err != want {
		t.Errorf("Check of %s: error %d; want %d", what, err, want)
	}
}

func TestP9_3CheckForm(t *testing.T) {
	expectCheck(t, "one of each", plainTx(), api.OK)
	expectCheck(t, "no input", changed(plainTx(), func(t *api.Tx) { t.In = nil }), api.ErrForm)
	expectCheck(t, "no output", changed(plainTx(), func(t *api.Tx) { t.Out = nil }), api.ErrForm)
	expectCheck(t, "nothing", api.Tx{}, api.ErrForm)
	expectCheck(t, "empty lists", api.Tx{In: []api.TxIn{}, Out: []api.TxOut{}}, api.ErrForm)
	expectCheck(t, "many of each", changed(plainTx(), func(t *api.Tx) {
		for i := range 50 {
			t.In = append(t.In, api.TxIn{Prev: api.OutPoint{Index: uint32(i)}})
			t.Out = append(t.Out, api.TxOut{})
		}
	}), api.OK)
}

// TestP9_3CheckSize: what counts is the size without witnesses.
func TestP9_3CheckSize(t *testing.T) {
	x := plainTx()
	x.Out[0].Script = make([]byte, api.MaxTx-tx.Size(x)-4)
	x.In[0].Witness = [][]byte{make([]byte, 200000)}
	expectCheck(t, "100000 bytes beside witnesses", x, api.OK)
	x.Out[0].Script = append(x.Out[0].Script, 0)
	expectCheck(t, "100001 bytes beside witnesses", x, api.ErrSize)
	x.In[0].Witness = nil
	expectCheck(t, "100001 bytes", x, api.ErrSize)
}

func TestP9_3CheckValues(t *testing.T) {
	for _, c := range []struct {
		values []int64
		want   api.Errno
	}{
		{[]int64{0}, api.OK},
		{[]int64{0, 0, 0}, api.OK},
		{[]int64{-1}, api.ErrRange},
		{[]int64{5, -1}, api.ErrRange},
		{[]int64{-1, 5}, api.ErrRange},
		{[]int64{math.MinInt64}, api.ErrRange},
		{[]int64{math.MaxInt64}, api.ErrRange},
		{[]int64{api.MaxMoney}, api.OK},
		{[]int64{api.MaxMoney + 1}, api.ErrRange},
		{[]int64{api.MaxMoney + 1, -1}, api.ErrRange},
		{[]int64{api.MaxMoney, 0}, api.OK},
		{[]int64{api.MaxMoney, 1}, api.ErrRange},
		{[]int64{api.MaxMoney - 1, 1}, api.OK},
		{[]int64{api.MaxMoney - 1, 1, 1}, api.ErrRange},
		{[]int64{api.MaxMoney, api.MaxMoney}, api.ErrRange},
		{[]int64{math.MaxInt64, math.MaxInt64, 2}, api.ErrRange},
		{[]int64{1 << 62, 1 << 62, 1 << 62, 1 << 62}, api.ErrRange},
	} {
		x := plainTx()
		x.Out = nil
		for _, v := range c.values {
			x.Out = append(x.Out, api.TxOut{Value: v})
		}
		if err := tx.Check(x); err != c.want {
			t.Errorf("Check of the values %d: error %d; want %d", c.values, err, c.want)
		}
	}
}

func TestP9_3CheckPlaces(t *testing.T) {
	a, b := api.OutPoint{Hash: digest(1), Index: 3}, api.OutPoint{Hash: digest(2), Index: 3}
	next := api.OutPoint{Hash: digest(1), Index: 4}
	last := api.OutPoint{Hash: digest(1), Index: math.MaxUint32}
	for _, c := range []struct {
		what   string
		places []api.OutPoint
		want   api.Errno
	}{
		{"other places", []api.OutPoint{a, b, next, last}, api.OK},
		{"one place twice", []api.OutPoint{a, a}, api.ErrClash},
		{"one place twice, not one behind the other", []api.OutPoint{a, b, next, a}, api.ErrClash},
		{"the empty place beside others", []api.OutPoint{a, emptyPlace()}, api.ErrNone},
		{"the empty place ahead of others", []api.OutPoint{emptyPlace(), a, b}, api.ErrNone},
		{"the empty place twice", []api.OutPoint{emptyPlace(), emptyPlace()}, api.ErrClash},
		{"the empty place and another one twice", []api.OutPoint{a, emptyPlace(), a}, api.ErrClash},
		{"a zero digest", []api.OutPoint{{}, {Index: math.MaxUint32 - 1}}, api.OK},
		{"a zero digest alone", []api.OutPoint{{}}, api.OK},
		{"the greatest index alone", []api.OutPoint{last}, api.OK},
	} {
		x := plainTx()
		x.In = nil
		for i, p := range c.places {
			x.In = append(x.In, api.TxIn{Prev: p, Seq: uint32(i), Script: fill(i, 1)})
		}
		expectCheck(t, c.what, x, c.want)
	}
}

func TestP9_3CheckCoinbase(t *testing.T) {
	for n, want := range map[int]api.Errno{0: api.ErrForm, 1: api.ErrForm, 2: api.OK, 3: api.OK, 99: api.OK, 100: api.OK, 101: api.ErrForm, 5000: api.ErrForm} {
		if err := tx.Check(coinbase(n)); err != want {
			t.Errorf("Check of a coinbase's Script of %d bytes: error %d; want %d", n, err, want)
		}
		other := coinbase(n)
		other.In[0].Prev.Index--
		expectCheck(t, "a Script of any length", other, api.OK)
	}
}

// TestP9_3CheckOrder lets several errors apply, each pair of them at once.
func TestP9_3CheckOrder(t *testing.T) {
	faults := []struct {
		err    api.Errno
		change func(t *api.Tx)
	}{
		{api.ErrSize, func(t *api.Tx) { t.In[0].Script = make([]byte, 100001) }},
		{api.ErrRange, func(t *api.Tx) { t.Out[0].Value = -1 }},
		{api.ErrClash, func(t *api.Tx) { t.In = append(t.In, t.In[0]) }},
		{api.ErrNone, func(t *api.Tx) { t.In = append(t.In, api.TxIn{Prev: emptyPlace()}) }},
	}
	for i, first := range faults {
		expectCheck(t, "one error", changed(plainTx(), first.change), first.err)
		for _, second := range faults[i+1:] {
			x := changed(changed(plainTx(), second.change), first.change)
			expectCheck(t, "two errors", x, first.err)
			expectCheck(t, "no output", changed(x, func(t *api.Tx) { t.Out = nil }), api.ErrForm)
		}
	}
	// A coinbase's Script is looked at last.
	expectCheck(t, "a coinbase without outputs", changed(coinbase(1), func(t *api.Tx) { t.Out = nil }), api.ErrForm)
	expectCheck(t, "a great coinbase", changed(coinbase(101), func(t *api.Tx) { t.Out[0].Script = make([]byte, 100000) }), api.ErrSize)
	expectCheck(t, "a coinbase's value", changed(coinbase(1), func(t *api.Tx) { t.Out[0].Value = -1 }), api.ErrRange)
	expectCheck(t, "a coinbase twice", changed(coinbase(1), func(t *api.Tx) { t.In = append(t.In, t.In[0]) }), api.ErrClash)
	expectCheck(t, "all errors, no input", changed(coinbase(1), func(t *api.Tx) { t.In, t.Out[0].Value, t.Out[0].Script = nil, -1, make([]byte, 100001) }), api.ErrForm)
}

func TestP9_3Coinbase(t *testing.T) {
	place := func(p api.OutPoint) api.Tx { return changed(coinbase(2), func(t *api.Tx) { t.In[0].Prev = p }) }
	for _, c := range []struct {
		what string
		tx   api.Tx
		want bool
	}{
		{"a coinbase", coinbase(2), true},
		{"one with a Script of no bytes", coinbase(0), true},
		{"one without outputs", changed(coinbase(2), func(t *api.Tx) { t.Out = nil }), true},
		{"one with a witness", changed(coinbase(2), func(t *api.Tx) { t.In[0].Witness = [][]byte{{1}} }), true},
		{"nothing", api.Tx{}, false},
		{"one with two inputs", changed(coinbase(2), func(t *api.Tx) { t.In = append(t.In, plainTx().In...) }), false},
		{"one with the empty place twice", changed(coinbase(2), func(t *api.Tx) { t.In = append(t.In, t.In[0]) }), false},
		{"a zero index", place(api.OutPoint{}), false},
		{"an index one less", place(api.OutPoint{Index: math.MaxUint32 - 1}), false},
		{"a digest that ends with 1", place(api.OutPoint{Hash: api.Hash{31: 1}, Index: math.MaxUint32}), false},
		{"a digest that begins with 1", place(api.OutPoint{Hash: api.Hash{1}, Index: math.MaxUint32}), false},
	} {
		if tx.Coinbase(c.tx) != c.want {
			t.Errorf("Coinbase of %s: %v", c.what, !c.want)
		}
	}
}

// finalCases are Locks, heights and times, and whether a transaction is final that waits.
var finalCases = []struct {
	lock   uint32
	height int
	time   uint32
	want   bool
}{
	{0, 0, 0, true}, {0, -1, 0, true}, {0, math.MinInt, math.MaxUint32, true},
	{1, 0, 0, false}, {1, 1, 0, false}, {1, 2, 0, true}, {1, -5, math.MaxUint32, false}, {1, math.MinInt, math.MaxUint32, false},
	{100, 99, math.MaxUint32, false}, {100, 100, math.MaxUint32, false}, {100, 101, 0, true}, {100, math.MaxInt, 0, true},
	{499999999, 499999998, math.MaxUint32, false}, {499999999, 499999999, math.MaxUint32, false}, {499999999, 500000000, 0, true},
	{500000000, math.MaxInt, 0, false}, {500000000, 500000001, 499999999, false}, {500000000, 500000001, 500000000, false}, {500000000, 0, 500000001, true}, {500000000, -1, math.MaxUint32, true},
	{math.MaxUint32, math.MaxInt, math.MaxUint32, false}, {math.MaxUint32 - 1, 0, math.MaxUint32, true}, {math.MaxUint32 - 1, 0, math.MaxUint32 - 1, false},
}

func TestP9_3Final(t *testing.T) {
	const done = math.MaxUint32
	for _, c := range finalCases {
		for _, seqs := range [][]uint32{{0}, {done - 1}, {done, 0}, {0, done}, {done, done, done - 1}, {done}, {done, done}, {}} {
			x := api.Tx{Lock: c.lock}
			for _, s := range seqs {
				x.In = append(x.In, api.TxIn{Seq: s})
			}
			all := !slices.ContainsFunc(seqs, func(s uint32) bool { return s != done })
			if got := tx.Final(x, c.height, c.time); got != (c.want || all) {
				t.Errorf("Final of Lock %d, Seqs %d, height %d, time %d: %v", c.lock, seqs, c.height, c.time, got)
			}
		}
	}
}
