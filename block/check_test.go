package block_test

import (
	"math"
	"testing"

	"strongbox/api"
	"strongbox/block"
	"strongbox/tx"
)

func TestP10_4Subsidy(t *testing.T) {
	for _, c := range []struct {
		height int
		want   int64
	}{
		{math.MinInt, 0}, {-151, 0}, {-150, 0}, {-1, 0}, {0, 5000000000}, {1, 5000000000}, {149, 5000000000}, {150, 2500000000}, {151, 2500000000}, {299, 2500000000}, {300, 1250000000},
		{9 * 150, 9765625}, {10 * 150, 4882812}, {11 * 150, 2441406}, {32*150 - 1, 2}, {32 * 150, 1}, {33*150 - 1, 1}, {33 * 150, 0}, {63 * 150, 0}, {64*150 - 1, 0}, {64 * 150, 0}, {65 * 150, 0}, {128 * 150, 0}, {math.MaxInt, 0},
	} {
		if got := block.Subsidy(c.height); got != c.want {
			t.Errorf("Subsidy(%d) = %d; want %d", c.height, got, c.want)
		}
	}
	want := int64(5000000000)
	for height := range 70 * 150 {
		if height > 0 && height%150 == 0 {
			want /= 2
		}
		if got := block.Subsidy(height); got != want {
			t.Fatalf("Subsidy(%d) = %d; want %d", height, got, want)
		}
	}
}

// proper returns a block with these transactions that has its root, and is Proved.
func proper(t *testing.T, list ...api.Tx) api.Block {
	t.Helper()
	b := api.Block{Header: api.Header{Version: 1, Prev: digest(1), Time: 5, Bits: api.PowLimit}, Txs: list}
	b.Merkle = block.Root(b)
	return mined(t, b, true)
}

func expectCheck(t *testing.T, what string, b api.Block, want api.Errno) {
	t.Helper()
	if err := block.Check(b); err != want {
		t.Errorf("Check of %s: error %d; want %d", what, err, want)
	}
}

func TestP10_4CheckWork(t *testing.T) {
	good := proper(t, coinbase(1))
	expectCheck(t, "a block", good, api.OK)
	expectCheck(t, "one that isn't Proved", mined(t, good, false), api.ErrWork)
	for _, bits := range []uint32{0, 0x20800000, 0x21010000, 0x01010000} {
		good.Bits = bits
		expectCheck(t, "other bits", good, api.ErrWork)
	}
	expectCheck(t, "nothing", api.Block{}, api.ErrWork)
}

func TestP10_4CheckForm(t *testing.T) {
	two := coinbase(3)
	two.In = append(two.In, payment(1).In...)
	for _, c := range []struct {
		what string
		list []api.Tx
		want api.Errno
	}{
		{"a coinbase", []api.Tx{coinbase(1)}, api.OK},
		{"a coinbase and others", []api.Tx{coinbase(1), payment(1), payment(2), witnessed(3)}, api.OK},
		{"no transaction", nil, api.ErrForm},
		{"no coinbase", []api.Tx{payment(1)}, api.ErrForm},
		{"a coinbase that isn't the first one", []api.Tx{payment(1), coinbase(1)}, api.ErrForm},
		{"two coinbases", []api.Tx{coinbase(1), coinbase(2)}, api.ErrForm},
		{"two coinbases, others between", []api.Tx{coinbase(1), payment(1), payment(2), coinbase(2)}, api.ErrForm},
		{"one with another input", []api.Tx{two}, api.ErrForm},
		{"one with another input beside a coinbase", []api.Tx{coinbase(1), two}, api.ErrNone},
		{"an empty transaction", []api.Tx{{}}, api.ErrForm},
	} {
		expectCheck(t, c.what, proper(t, c.list...), c.want)
	}
}

// TestP10_4CheckSize: witnesses count.
func TestP10_4CheckSize(t *testing.T) {
	first := coinbase(1)
	first.In[0].Witness = [][]byte{make([]byte, 900000)}
	rest := api.MaxBlock - len(block.Encode(blockOf(first)))
	first.In[0].Witness[0] = make([]byte, 900000+rest)
	b := proper(t, first)
	if n := len(block.Encode(b)); n != 1000000 {
		t.Fatalf("%d bytes", n)
	}
	expectCheck(t, "1000000 bytes", b, api.OK)
	first.In[0].Witness[0] = make([]byte, 900001+rest)
	expectCheck(t, "1000001 bytes", proper(t, first), api.ErrSize)
}

func TestP10_4CheckRoot(t *testing.T) {
	good := proper(t, coinbase(1), witnessed(1), payment(2))
	expectCheck(t, "a block", good, api.OK)
	for i := range 32 {
		bad := good
		bad.Merkle[i]++
		expectCheck(t, "another root", mined(t, bad, true), api.ErrSum)
	}
	ids := proper(t, coinbase(1), witnessed(1))
	ids.Merkle = block.Merkle(tx.Id(ids.Txs[0]), tx.Id(ids.Txs[1]))
	expectCheck(t, "a root of what identifies without witnesses", mined(t, ids, true), api.ErrSum)
	swapped := good
	swapped.Txs = []api.Tx{good.Txs[0], good.Txs[2], good.Txs[1]}
	expectCheck(t, "another order", swapped, api.ErrSum)
}

// TestP10_4CheckTxs returns the error of the first transaction that has one.
func TestP10_4CheckTxs(t *testing.T) {
	none, low, twice, great := payment(1), payment(2), payment(3), sized(100001)
	none.Out = nil
	low.Out[0].Value = -1
	twice.In = append(twice.In, twice.In[0])
	short := coinbase(1)
	short.In[0].Script = []byte{1}
	for _, c := range []struct {
		what string
		list []api.Tx
		want api.Errno
	}{
		{"no output", []api.Tx{coinbase(1), none}, api.ErrForm},
		{"a value", []api.Tx{coinbase(1), payment(9), low}, api.ErrRange},
		{"a place twice", []api.Tx{coinbase(1), twice, payment(9)}, api.ErrClash},
		{"too many bytes", []api.Tx{coinbase(1), great}, api.ErrSize},
		{"a coinbase's Script", []api.Tx{short, payment(9)}, api.ErrForm},
		{"a coinbase's Script, a value", []api.Tx{short, low}, api.ErrForm},
		{"a value, no output", []api.Tx{coinbase(1), low, none}, api.ErrRange},
		{"no output, a value", []api.Tx{coinbase(1), none, low}, api.ErrForm},
		{"a place twice, too many bytes", []api.Tx{coinbase(1), payment(9), twice, great}, api.ErrClash},
		{"one place in two transactions", []api.Tx{coinbase(1), payment(9), {In: payment(9).In, Out: payment(8).Out}}, api.OK},
	} {
		expectCheck(t, c.what, proper(t, c.list...), c.want)
	}
}

func TestP10_4CheckTwice(t *testing.T) {
	other := witnessed(5)
	other.In[0].Witness[0][0]++
	expectCheck(t, "one transaction twice", proper(t, coinbase(1), payment(1), payment(1)), api.ErrClash)
	expectCheck(t, "one transaction twice, others between", proper(t, coinbase(1), payment(1), payment(2), payment(3), payment(1)), api.ErrClash)
	expectCheck(t, "one transaction with two witnesses", proper(t, coinbase(1), witnessed(5), other), api.ErrClash)
	expectCheck(t, "one transaction with and without a witness", proper(t, coinbase(1), payment(5), witnessed(5)), api.ErrClash)
}

// Errors that a block can have at once, in the order in which Check tells them.
const (
	badWork = 1 << iota
	badForm
	badSize
	badRoot
	badTx
	badTwice
	allBad
)

// bad returns a block with such errors.
func bad(t *testing.T, errors int) api.Block {
	t.Helper()
	first := coinbase(1)
	if errors&badSize != 0 {
		first.In[0].Witness = [][]byte{make([]byte, 1000000)}
	}
	list := []api.Tx{first, payment(1)}
	if errors&badForm != 0 {
		list = append(list, coinbase(2))
	}
	if errors&badTwice != 0 {
		list = append(list, payment(1))
	}
	if errors&badTx != 0 {
		low := payment(2)
		low.Out[0].Value = -1
		list = append(list, low)
	}
	b := api.Block{Header: api.Header{Bits: api.PowLimit}, Txs: list}
	b.Merkle = block.Root(b)
	if errors&badRoot != 0 {
		b.Merkle[0]++
	}
	return mined(t, b, errors&badWork == 0)
}

// TestP10_4CheckOrder lets all errors apply together that can.
func TestP10_4CheckOrder(t *testing.T) {
	order := []struct {
		bad int
		err api.Errno
	}{{badWork, api.ErrWork}, {badForm, api.ErrForm}, {badSize, api.ErrSize}, {badRoot, api.ErrSum}, {badTx, api.ErrRange}, {badTwice, api.ErrClash}}
	for errors := range allBad {
		want := api.OK
		for _, o := range order {
			if want == api.OK && errors&o.bad != 0 {
				want = o.err
			}
		}
		if err := block.Check(bad(t, errors)); err != want {
			t.Errorf("Check with the errors %06b: error %d; want %d", errors, err, want)
		}
	}
}
