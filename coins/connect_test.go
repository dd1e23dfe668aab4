package coins_test

import (
	"math"
	"slices"
	"testing"

	"strongbox/api"
	"strongbox/coins"
	"strongbox/tx"
)

const subsidy = 5000000000

// made returns the place of an output of a transaction.
func made(t api.Tx, index uint32) api.OutPoint { return api.OutPoint{Hash: tx.Id(t), Index: index} }

func blockOf(list ...api.Tx) api.Block { return api.Block{Txs: list} }

// expectConnect holds Connect against an error, and the set and the undo against the plain set.
func expectConnect(t *testing.T, what string, s *coins.Set, b api.Block, height int, want api.Errno) coins.Undo {
	t.Helper()
	was := plainSet(s.List())
	q, undo, err := was.connect(b, height, 0)
	got, e := s.Connect(b, height, 0)
	if e != want || err != want || !sameEntries(got, undo) {
		t.Errorf("%s: Connect = %v, %d; want %v, %d (the plain set: %d)", what, got, e, undo, want, err)
	}
	expectSet(t, what, s, q)
	return got
}

// TestP16_2Example is the chapter's example.
func TestP16_2Example(t *testing.T) {
	s := coins.New()
	first := coinbase(1, outsOf(subsidy)...)
	if u := expectConnect(t, "a coinbase", s, blockOf(first), 1, api.OK); len(u) != 0 {
		t.Errorf("Undo %v", u)
	}
	want := coins.Entry{Place: made(first, 0), Coin: coins.Coin{Out: first.Out[0], Height: 1, Fresh: true}}
	expectSet(t, "a coinbase", s, plainSet{want})
	pay := spending(outsOf(subsidy), made(first, 0))
	expectConnect(t, "height 10", s, blockOf(coinbase(2), pay), 10, api.ErrEarly)
	u := expectConnect(t, "height 11", s, blockOf(coinbase(2), pay), 11, api.OK)
	if !sameEntries(u, []coins.Entry{want}) {
		t.Errorf("Undo %v", u)
	}
	expectSet(t, "a payment", s, plainSet{{Place: made(pay, 0), Coin: coins.Coin{Out: pay.Out[0], Height: 11}}})
}

func TestP16_2Form(t *testing.T) {
	s := setOf(entry(1, 100), entry(2, 100))
	pay, bad := spending(outsOf(1), place(1, 0)), spending(outsOf(1), place(9, 0))
	for _, list := range [][]api.Tx{
		nil, {}, {pay}, {pay, coinbase(1)}, {coinbase(1), coinbase(2)}, {coinbase(1), pay, coinbase(1)}, {{}}, {coinbase(1), bad, coinbase(2)}, {bad, bad}, {coinbase(1, outsOf(-1)...), coinbase(1)},
		{spending(outsOf(1), api.OutPoint{Index: math.MaxUint32}, place(1, 0))},
	} {
		expectConnect(t, "no coinbase, or others", s, blockOf(list...), 1, api.ErrForm)
	}
}

// TestP16_2First: nothing is asked of the first transaction but the sum of its outputs, and that its places are free.
func TestP16_2First(t *testing.T) {
	empty := coins.Entry{Place: api.OutPoint{Index: math.MaxUint32}, Coin: entry(1, 5).Coin}
	short, long, late := coinbase(1, outsOf(1)...), coinbase(2, outsOf(2)...), coinbase(3, outsOf(3)...)
	short.In[0].Script, long.In[0].Script, late.Lock = nil, make([]byte, 200000), 4000000000
	for _, first := range []api.Tx{short, long, late, coinbase(4), coinbase(5, outsOf(0, 0)...)} {
		s := setOf(empty)
		if u := expectConnect(t, "a first transaction", s, blockOf(first), 1, api.OK); len(u) != 0 {
			t.Errorf("Undo %v", u)
		}
		if _, ok := s.Get(empty.Place); !ok || s.Count() != 1+len(first.Out) {
			t.Errorf("a coinbase spends a coin")
		}
		if err := s.Disconnect(blockOf(first), nil); err != api.OK || !s.Same(setOf(empty)) {
			t.Errorf("Disconnect: error %d", err)
		}
	}
}

// TestP16_2Within: a transaction may spend what those ahead of it made.
func TestP16_2Within(t *testing.T) {
	s := setOf(entry(1, 100))
	a := spending(outsOf(50, 45), place(1, 0))
	b := spending(outsOf(44), made(a, 1))
	c := spending(outsOf(90), made(b, 0), made(a, 0))
	first := coinbase(1, outsOf(subsidy, 10)...)
	expectConnect(t, "the wrong order", s, blockOf(first, a, c, b), 1, api.ErrSpent)
	expectConnect(t, "the wrong order", s, blockOf(first, b, a), 1, api.ErrSpent)
	expectConnect(t, "more than the fees", s, blockOf(coinbase(1, outsOf(subsidy, 11)...), a, b, c), 1, api.ErrRange)
	u := expectConnect(t, "one after the other", s, blockOf(first, a, b, c), 1, api.OK)
	want := []coins.Entry{entry(1, 100), {Place: made(a, 1), Coin: coins.Coin{Out: a.Out[1], Height: 1}}, {Place: made(b, 0), Coin: coins.Coin{Out: b.Out[0], Height: 1}}, {Place: made(a, 0), Coin: coins.Coin{Out: a.Out[0], Height: 1}}}
	if !sameEntries(u, want) {
		t.Errorf("Undo %v", u)
	}
	expectSet(t, "one after the other", s, plainSet{
		{Place: made(c, 0), Coin: coins.Coin{Out: c.Out[0], Height: 1}},
		{Place: made(first, 0), Coin: coins.Coin{Out: first.Out[0], Height: 1, Fresh: true}},
		{Place: made(first, 1), Coin: coins.Coin{Out: first.Out[1], Height: 1, Fresh: true}},
	})
	if err := s.Disconnect(blockOf(first, a, b, c), u); err != api.OK || !s.Same(setOf(entry(1, 100))) {
		t.Errorf("Disconnect: error %d", err)
	}
}

func TestP16_2Errors(t *testing.T) {
	first := coinbase(1, outsOf(subsidy)...)
	pay := spending(outsOf(60), place(1, 0))
	twice, late, fails, clash := spending(outsOf(10), place(1, 0)), spending(outsOf(1), place(2, 0)), spending(outsOf(1), place(3, 0)), spending(outsOf(1), place(2, 0), place(2, 0))
	late.Lock, late.In[0].Seq = 1, 0
	falsy := entry(3, 100)
	falsy.Coin.Out.Script = []byte{0}
	for _, c := range []struct {
		what string
		list []api.Tx
		want api.Errno
	}{
		{"a payment", []api.Tx{first, pay}, api.OK},
		{"a coin twice", []api.Tx{first, pay, twice}, api.ErrSpent},
		{"a payment twice", []api.Tx{first, pay, pay}, api.ErrSpent},
		{"the coin of the coinbase", []api.Tx{first, pay, spending(outsOf(1), made(first, 0))}, api.ErrEarly},
		{"a Lock", []api.Tx{first, pay, late}, api.ErrEarly},
		{"a script", []api.Tx{first, pay, fails}, api.ErrScript},
		{"a place twice", []api.Tx{first, pay, clash}, api.ErrClash},
		{"too great a payment", []api.Tx{first, pay, spending(outsOf(101), place(2, 0))}, api.ErrRange},
		{"too great a coinbase", []api.Tx{coinbase(1, outsOf(subsidy, 41)...), pay}, api.ErrRange},
		{"too great a coinbase, and a coin that isn't there", []api.Tx{coinbase(1, outsOf(subsidy, 41)...), pay, twice}, api.ErrSpent},
		{"a value, and a script", []api.Tx{coinbase(1, outsOf(-1)...), pay, fails}, api.ErrScript},
		{"a script, and a Lock", []api.Tx{first, fails, late}, api.ErrScript},
		{"a Lock, and a script", []api.Tx{first, late, fails}, api.ErrEarly},
	} {
		expectConnect(t, c.what, setOf(entry(1, 100), entry(2, 100), falsy), blockOf(c.list...), 1, c.want)
	}
}

func TestP16_2There(t *testing.T) {
	first := coinbase(1, outsOf(7, 8)...)
	pay := spending(outsOf(60, 5), place(1, 0))
	bad := spending(outsOf(1), place(9, 0))
	for index := range uint32(2) {
		s := setOf(entry(1, 100), coins.Entry{Place: made(first, index)})
		expectConnect(t, "a coinbase whose place exists", s, blockOf(first, pay), 1, api.ErrThere)
		expectConnect(t, "a coinbase whose place exists, and a coin that doesn't", s, blockOf(first, bad), 1, api.ErrThere)
		s = setOf(entry(1, 100), coins.Entry{Place: made(pay, index)})
		expectConnect(t, "a payment whose place exists", s, blockOf(first, pay), 1, api.ErrThere)
		expectConnect(t, "too great a coinbase", s, blockOf(coinbase(1, outsOf(subsidy, 36)...), pay), 1, api.ErrThere)
	}
	s := setOf(coins.Entry{Place: made(pay, 0)})
	expectConnect(t, "a place that exists, and a coin that doesn't", s, blockOf(first, pay), 1, api.ErrSpent)
	s = setOf(entry(1, 100), coins.Entry{Place: made(pay, 2)}, coins.Entry{Place: made(first, 2)})
	expectConnect(t, "places beside", s, blockOf(first, pay), 1, api.OK)
	expectConnect(t, "the same coinbase", s, blockOf(first), 2, api.ErrThere)
	s.Put(entry(1, 100))
	expectConnect(t, "the same payment", s, blockOf(coinbase(2), pay), 2, api.ErrThere)
	// What was spent may be made again.
	both := spending(outsOf(1), made(first, 0), made(first, 1))
	expectConnect(t, "spent", s, blockOf(coinbase(2), both), 11, api.OK)
	expectConnect(t, "the same coinbase after it was spent", s, blockOf(first), 12, api.OK)
}

// TestP16_4Value: at each height the coinbase may take the subsidy and the fees, and not more.
func TestP16_4Value(t *testing.T) {
	for _, c := range []struct {
		height  int
		subsidy int64
	}{{math.MinInt, 0}, {-1, 0}, {0, subsidy}, {1, subsidy}, {149, subsidy}, {150, subsidy / 2}, {299, subsidy / 2}, {300, subsidy / 4}, {32 * 150, 1}, {33 * 150, 0}, {64 * 150, 0}, {math.MaxInt, 0}} {
		for _, fee := range []int64{0, 1, 40} {
			old := entry(1, 100)
			pay, more := spending(outsOf(100-fee), old.Place), spending(outsOf(0, 3), place(2, 0))
			s := setOf(old, entry(2, 4))
			for _, values := range [][]int64{{c.subsidy + fee + 2}, {c.subsidy + fee, 2}, {2, c.subsidy, fee}, {-1}, {c.subsidy, -1}, {math.MaxInt64, math.MaxInt64, 3}, {api.MaxMoney + 1}, {api.MaxMoney, 1}} {
				expectConnect(t, "too much", s, blockOf(coinbase(1, outsOf(values...)...), pay, more), c.height, api.ErrRange)
			}
			for _, values := range [][]int64{{c.subsidy + fee + 1}, {c.subsidy, fee, 1}, {c.subsidy, fee}, {0}, nil} {
				expectConnect(t, "all of it, or less", s.Clone(), blockOf(coinbase(1, outsOf(values...)...), pay, more), c.height, api.OK)
			}
		}
	}
}

// TestP16_4Sums: neither sum may be more than all the money that there is.
func TestP16_4Sums(t *testing.T) {
	rich := entry(1, api.MaxMoney)
	pay := spending(outsOf(0), rich.Place)
	expectConnect(t, "a subsidy and fees", setOf(rich), blockOf(coinbase(1), pay), 1, api.ErrRange)
	expectConnect(t, "fees alone", setOf(rich), blockOf(coinbase(1, outsOf(api.MaxMoney)...), pay), -1, api.OK)
	rich.Coin.Out.Value -= subsidy
	expectConnect(t, "a subsidy and fees", setOf(rich), blockOf(coinbase(1, outsOf(api.MaxMoney)...), pay), 1, api.OK)
	rich.Coin.Out.Value++
	expectConnect(t, "a subsidy and fees", setOf(rich), blockOf(coinbase(1), pay), 1, api.ErrRange)
}

// TestP16_4Random: what a block adds to all coins is at most its subsidy.
func TestP16_4Random(t *testing.T) {
	w, s := newWorld(44)
	total := func() (sum int64) {
		for _, e := range s.List() {
			sum += e.Coin.Out.Value
		}
		return sum
	}
	for range 400 {
		b, was := w.block(), total()
		if len(b.Txs) > 0 {
			b.Txs[0].Out = w.outs(w.Int63n(4 * subsidy))
		}
		if _, err := s.Connect(b, w.height, 0); err == api.OK {
			w.p = s.List()
			w.height++
		}
		if now := total(); now > was+subsidy {
			t.Fatalf("a block makes %d", now-was)
		}
	}
	if w.height < 100 {
		t.Errorf("only %d blocks", w.height)
	}
}

// expectState: Disconnect returns ErrState, and changes nothing.
func expectState(t *testing.T, what string, s *coins.Set, b api.Block, u coins.Undo) {
	t.Helper()
	was := plainSet(s.List())
	if err := s.Disconnect(b, u); err != api.ErrState {
		t.Errorf("%s: Disconnect: error %d; want ErrState", what, err)
	}
	expectSet(t, what, s, was)
}

// spentBlock returns a set after a block, the block, its undo, and the set before.
func spentBlock(t *testing.T) (*coins.Set, api.Block, coins.Undo, *coins.Set) {
	t.Helper()
	s := setOf(entry(1, 100), entry(2, 100), entry(3, 100), entry(7, 7))
	a := spending(outsOf(50, 45), place(1, 0), place(2, 0))
	b := blockOf(coinbase(1, outsOf(5, 6)...), a, spending(outsOf(3), made(a, 1), place(3, 0)))
	was := s.Clone()
	u := expectConnect(t, "a block", s, b, 1, api.OK)
	return s, b, u, was
}

func TestP16_3Disconnect(t *testing.T) {
	s, b, u, was := spentBlock(t)
	if err := s.Disconnect(b, u); err != api.OK || !s.Same(was) {
		t.Errorf("Disconnect: error %d", err)
	}
	expectState(t, "once more", s, b, u)
	if again, err := s.Connect(b, 1, 0); err != api.OK || !sameEntries(again, u) {
		t.Errorf("Connect once more: error %d", err)
	}
}

func TestP16_3Undo(t *testing.T) {
	s, b, u, _ := spentBlock(t)
	expectState(t, "no undo", s, b, nil)
	for i := range u {
		expectState(t, "too few", s, b, slices.Delete(slices.Clone(u), i, i+1))
		expectState(t, "too many", s, b, slices.Insert(slices.Clone(u), i, entry(8, 8)))
		expectState(t, "one twice", s, b, slices.Insert(slices.Clone(u), i, u[i]))
		expectState(t, "the rest", s, b, u[i+1:])
		for _, at := range []api.OutPoint{place(8, 8), {}, {Hash: u[i].Place.Hash, Index: u[i].Place.Index + 1}, u[(i+1)%len(u)].Place} {
			other := slices.Clone(u)
			other[i].Place = at
			expectState(t, "another place", s, b, other)
		}
		swapped := slices.Clone(u)
		swapped[i], swapped[(i+1)%len(u)] = swapped[(i+1)%len(u)], swapped[i]
		expectState(t, "another order", s, b, swapped)
	}
	expectState(t, "too many", s, b, append(slices.Clone(u), entry(8, 8)))
}

func TestP16_3Outputs(t *testing.T) {
	s, b, u, _ := spentBlock(t)
	for _, e := range s.List() {
		if e.Place == place(7, 0) {
			continue
		}
		for i, change := range []func(e *coins.Entry){
			func(e *coins.Entry) { e.Coin.Out.Value++ },
			func(e *coins.Entry) { e.Coin.Out.Script = nil },
			func(e *coins.Entry) { e.Coin.Out.Script = []byte{0x52} },
			func(e *coins.Entry) { e.Coin.Out.Script = []byte{0x51, 0} },
		} {
			other, bad := s.Clone(), e
			change(&bad)
			other.Put(bad)
			expectState(t, "an output that changed "+string(rune('a'+i)), other, b, u)
		}
	}
	var without []coins.Entry
	for i := range s.List() {
		without = slices.Delete(s.List(), i, i+1)
		if s.List()[i].Place != place(7, 0) {
			expectState(t, "an output that isn't there", setOf(without...), b, u)
		}
	}
	for _, n := range []byte{1, 2, 3} {
		other := s.Clone()
		other.Put(entry(n, 100))
		expectState(t, "a coin that is there already", other, b, u)
	}
}

// TestP16_3Inner: an output that the block itself spent must be as it was made once it is restored.
func TestP16_3Inner(t *testing.T) {
	s, b, u, _ := spentBlock(t)
	for i := range u {
		other := slices.Clone(u)
		other[i].Coin.Out.Value++
		if i == 2 {
			expectState(t, "an output of the block", s, b, other)
			continue
		}
		c := s.Clone()
		if err := c.Disconnect(b, other); err != api.OK {
			t.Errorf("coin %d: error %d", i, err)
		}
		if got, _ := c.Get(u[i].Place); got.Out.Value != u[i].Coin.Out.Value+1 {
			t.Errorf("coin %d: not as the undo says", i)
		}
	}
	// Height and Fresh of an output aren't asked.
	for _, e := range s.List() {
		e.Coin.Height, e.Coin.Fresh = 99, !e.Coin.Fresh
		s.Put(e)
	}
	if err := s.Disconnect(b, u); err != api.OK {
		t.Errorf("other heights: error %d", err)
	}
}

// TestP16_3AnyBlock: blocks that were never connected.
func TestP16_3AnyBlock(t *testing.T) {
	s := setOf(entry(1, 100))
	if err := s.Disconnect(api.Block{}, nil); err != api.OK || !s.Same(setOf(entry(1, 100))) {
		t.Errorf("no transaction: error %d", err)
	}
	expectState(t, "no transaction, an undo", s, api.Block{}, coins.Undo{entry(2, 1)})
	// The first one restores nothing, whatever it is; another coinbase does.
	pay := spending(nil, place(2, 0))
	if err := s.Disconnect(blockOf(pay), nil); err != api.OK || !s.Same(setOf(entry(1, 100))) {
		t.Errorf("a payment that comes first: error %d", err)
	}
	expectState(t, "a payment that comes first, an undo", s, blockOf(pay), coins.Undo{entry(2, 1)})
	expectState(t, "a place twice", s, blockOf(coinbase(1), spending(nil, place(2, 0), place(2, 0))), coins.Undo{entry(2, 1), entry(2, 1)})
	empty := coins.Entry{Place: api.OutPoint{Index: math.MaxUint32}}
	if err := s.Disconnect(blockOf(coinbase(1), coinbase(2)), coins.Undo{empty}); err != api.OK || !s.Same(setOf(entry(1, 100), empty)) {
		t.Errorf("another coinbase: error %d", err)
	}
}

// TestP16_3Worthless: also an output without a value or a Script must exist.
func TestP16_3Worthless(t *testing.T) {
	first := coinbase(1, api.TxOut{}, api.TxOut{})
	s := setOf(coins.Entry{Place: made(first, 0)})
	expectState(t, "an output that isn't there", s, blockOf(first), nil)
	s.Put(coins.Entry{Place: made(first, 1)})
	if err := s.Disconnect(blockOf(first), nil); err != api.OK || s.Count() != 0 {
		t.Errorf("Disconnect: error %d", err)
	}
}
