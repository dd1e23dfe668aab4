package coins_test

import (
	"math"
	"slices"
	"testing"

	"strongbox/api"
	"strongbox/check"
	"strongbox/coins"
	"strongbox/curve"
	"strongbox/hash"
	"strongbox/script"
	"strongbox/tx"
)

// place returns a place that no transaction makes.
func place(n byte, index uint32) api.OutPoint {
	return api.OutPoint{Hash: api.Hash{n, 31: n}, Index: index}
}

// entry returns a coin that everybody may spend.
func entry(n byte, value int64) coins.Entry {
	return coins.Entry{Place: place(n, 0), Coin: coins.Coin{Out: api.TxOut{Value: value, Script: []byte{0x51}}, Height: 5}}
}

// outsOf returns outputs with these values that everybody may spend.
func outsOf(values ...int64) []api.TxOut {
	var list []api.TxOut
	for _, v := range values {
		list = append(list, api.TxOut{Value: v, Script: []byte{0x51}})
	}
	return list
}

// coinbase returns the nth coinbase with these outputs.
func coinbase(n int, outs ...api.TxOut) api.Tx {
	return api.Tx{In: []api.TxIn{{Prev: api.OutPoint{Index: math.MaxUint32}, Script: []byte{2, byte(n), byte(n >> 8)}}}, Out: outs}
}

// spending returns a transaction that spends these places.
func spending(outs []api.TxOut, places ...api.OutPoint) api.Tx {
	t := api.Tx{Version: 1, Out: outs}
	for _, p := range places {
		t.In = append(t.In, api.TxIn{Prev: p, Seq: math.MaxUint32})
	}
	return t
}

func setOf(list ...coins.Entry) *coins.Set {
	s := coins.New()
	s.Put(list...)
	return s
}

func TestP16_1Put(t *testing.T) {
	s := coins.New()
	expectSet(t, "New", s, nil)
	if c, ok := s.Get(api.OutPoint{}); ok || !isZero(c) {
		t.Errorf("Get = %v, %v", c, ok)
	}
	s.Put()
	expectSet(t, "Put of nothing", s, nil)
	one, two := entry(1, 7), entry(2, -8)
	two.Coin.Fresh, two.Coin.Height, two.Coin.Out.Script = true, math.MinInt, nil
	s.Put(two, one)
	expectSet(t, "Put of two", s, plainSet{one, two})
	other := entry(1, math.MaxInt64)
	other.Coin.Fresh = true
	s.Put(other)
	expectSet(t, "another one at the place", s, plainSet{other, two})
	s.Put(one, other, one)
	expectSet(t, "several at a place", s, plainSet{one, two})
}

// TestP16_1List sorts by the bytes of the Hash, then by the Index as a number.
func TestP16_1List(t *testing.T) {
	var want []api.OutPoint
	for _, h := range []api.Hash{{}, {31: 1}, {31: 255}, {30: 1}, {1: 1}, {1: 1, 31: 1}, {1}, {1, 1}, {2}, {127}, {128}, {255}, {255, 255}} {
		for _, index := range []uint32{0, 1, 255, 256, 1 << 24, 1<<31 - 1, 1 << 31, math.MaxUint32} {
			want = append(want, api.OutPoint{Hash: h, Index: index})
		}
	}
	s := coins.New()
	for i := range want {
		at := want[(i*37+11)%len(want)]
		s.Put(coins.Entry{Place: at})
	}
	for range 3 {
		var got []api.OutPoint
		for _, e := range s.List() {
			got = append(got, e.Place)
		}
		if !slices.Equal(got, want) {
			t.Fatalf("List: the places %v; want %v", got, want)
		}
	}
}

func expectFits(t *testing.T, what string, s *coins.Set, x api.Tx, height int, time uint32, fee int64, err api.Errno) {
	t.Helper()
	was := s.Clone()
	if got, e := s.Fits(x, height, time); got != fee || e != err {
		t.Errorf("Fits of %s = %d, error %d; want %d, %d", what, got, e, fee, err)
	}
	if !s.Same(was) {
		t.Errorf("Fits of %s changed the set", what)
	}
}

func TestP16_1FitsForm(t *testing.T) {
	s := setOf(entry(1, 100), entry(2, 50), coins.Entry{Place: api.OutPoint{Index: math.MaxUint32}, Coin: entry(1, 5).Coin})
	expectFits(t, "a payment", s, spending(outsOf(60), place(1, 0)), 0, 0, 40, api.OK)
	expectFits(t, "two coins", s, spending(outsOf(60, 3), place(1, 0), place(2, 0)), 0, 0, 87, api.OK)
	expectFits(t, "no input", s, spending(outsOf(60)), 0, 0, 0, api.ErrForm)
	expectFits(t, "no output", s, spending(nil, place(1, 0)), 0, 0, 0, api.ErrForm)
	expectFits(t, "a value", s, spending(outsOf(-1), place(1, 0)), 0, 0, 0, api.ErrRange)
	expectFits(t, "a place twice", s, spending(outsOf(1), place(1, 0), place(1, 0)), 0, 0, 0, api.ErrClash)
	expectFits(t, "a place twice that doesn't exist", s, spending(outsOf(1), place(9, 0), place(9, 0)), 0, 0, 0, api.ErrClash)
	expectFits(t, "the empty place", s, spending(outsOf(1), place(1, 0), api.OutPoint{Index: math.MaxUint32}), 0, 0, 0, api.ErrNone)
	expectFits(t, "a coinbase", s, coinbase(1, outsOf(1)...), 0, 0, 0, api.ErrForm)
	expectFits(t, "a coinbase of a value that is none", s, coinbase(1, outsOf(-1)...), 0, 0, 0, api.ErrRange)
	expectFits(t, "nothing", s, api.Tx{}, 0, 0, 0, api.ErrForm)
	big := spending(outsOf(1), place(9, 0))
	big.In[0].Script = make([]byte, 100000)
	expectFits(t, "a great one", s, big, 0, 0, 0, api.ErrSize)
}

func TestP16_1FitsSpent(t *testing.T) {
	s := setOf(entry(1, 100), entry(2, 50))
	for _, p := range []api.OutPoint{place(3, 0), place(1, 1), {}, {Hash: place(1, 0).Hash, Index: math.MaxUint32}} {
		expectFits(t, "no coin", s, spending(outsOf(1), p), 0, 0, 0, api.ErrSpent)
		expectFits(t, "no coin beside one", s, spending(outsOf(1), place(1, 0), p), 0, 0, 0, api.ErrSpent)
		expectFits(t, "one beside no coin", s, spending(outsOf(1), p, place(1, 0)), 0, 0, 0, api.ErrSpent)
	}
}

func TestP16_1FitsMature(t *testing.T) {
	for _, c := range []struct {
		made, height int
		ok           bool
	}{
		{1, 10, false}, {1, 11, true}, {1, 12, true}, {0, 9, false}, {0, 10, true}, {5, 5, false}, {5, 4, false}, {5, 0, false}, {-3, 6, false}, {-3, 7, true}, {-30, -21, false}, {-30, -20, true},
		{math.MaxInt, math.MaxInt, false}, {math.MaxInt - 9, math.MaxInt, false}, {math.MaxInt - 10, math.MaxInt, true}, {math.MinInt, math.MinInt + 9, false}, {math.MinInt, math.MinInt + 10, true},
		{math.MinInt, math.MaxInt, true}, {math.MaxInt, math.MinInt, false}, {math.MinInt, 0, true}, {1, math.MinInt, false}, {-1, math.MaxInt, true}, {math.MaxInt, -2, false}, {math.MinInt, -1, true},
	} {
		fresh := entry(1, 100)
		fresh.Coin.Fresh, fresh.Coin.Height = true, c.made
		err, fee := api.ErrEarly, int64(0)
		if c.ok {
			err, fee = api.OK, 40
		}
		expectFits(t, "a fresh coin", setOf(fresh), spending(outsOf(60), place(1, 0)), c.height, 0, fee, err)
		expectFits(t, "a fresh coin beside another one", setOf(fresh, entry(2, 0)), spending(outsOf(60), place(2, 0), place(1, 0)), c.height, 0, fee, err)
		fresh.Coin.Fresh = false
		expectFits(t, "a coin that isn't fresh", setOf(fresh), spending(outsOf(60), place(1, 0)), c.height, 0, 40, api.OK)
	}
}

func TestP16_1FitsFinal(t *testing.T) {
	s := setOf(entry(1, 100), entry(2, 0))
	for _, c := range []struct {
		lock, seq uint32
		height    int
		time      uint32
		ok        bool
	}{
		{0, 0, 0, 0, true}, {7, 0, 7, 0, false}, {7, 0, 8, 0, true}, {7, 0, 6, math.MaxUint32, false}, {7, math.MaxUint32, 0, 0, true}, {7, math.MaxUint32 - 1, 0, 0, false},
		{600000000, 0, 0, 600000000, false}, {600000000, 0, 0, 600000001, true}, {600000000, 0, math.MaxInt, 0, false}, {600000000, math.MaxUint32, 0, 0, true},
	} {
		x := spending(outsOf(60), place(1, 0), place(2, 0))
		x.Lock, x.In[1].Seq = c.lock, c.seq
		err, fee := api.ErrEarly, int64(0)
		if c.ok {
			err, fee = api.OK, 40
		}
		expectFits(t, "a Lock", s, x, c.height, c.time, fee, err)
	}
}

func TestP16_1FitsSum(t *testing.T) {
	most := int64(api.MaxMoney)
	for _, c := range []struct {
		has, pays []int64
		fee       int64
		err       api.Errno
	}{
		{[]int64{100}, []int64{100}, 0, api.OK},
		{[]int64{100}, []int64{101}, 0, api.ErrRange},
		{[]int64{100}, []int64{99, 1}, 0, api.OK},
		{[]int64{100}, []int64{99, 2}, 0, api.ErrRange},
		{[]int64{100, 50}, []int64{99, 2}, 49, api.OK},
		{[]int64{0}, []int64{0}, 0, api.OK},
		{[]int64{0}, []int64{1}, 0, api.ErrRange},
		{[]int64{most}, []int64{0}, most, api.OK},
		{[]int64{most, 0}, []int64{most, 0}, 0, api.OK},
		{[]int64{most, 1}, []int64{1}, 0, api.ErrRange},
		{[]int64{most - 1, 1}, []int64{1}, most - 1, api.OK},
		{[]int64{most + 1}, []int64{1}, 0, api.ErrRange},
		{[]int64{-1}, []int64{0}, 0, api.ErrRange},
		{[]int64{-1, 5}, []int64{0}, 0, api.ErrRange},
		{[]int64{5, -1}, []int64{0}, 0, api.ErrRange},
		{[]int64{math.MaxInt64, math.MaxInt64, 2}, []int64{0}, 0, api.ErrRange},
		{[]int64{math.MinInt64, math.MinInt64}, []int64{0}, 0, api.ErrRange},
	} {
		s := coins.New()
		var places []api.OutPoint
		for i, v := range c.has {
			s.Put(entry(byte(i), v))
			places = append(places, place(byte(i), 0))
		}
		expectFits(t, "sums", s, spending(outsOf(c.pays...), places...), 0, 0, c.fee, c.err)
	}
}

// TestP16_1FitsScripts holds each input against the coin that it spends.
func TestP16_1FitsScripts(t *testing.T) {
	s := coins.New()
	x := spending(outsOf(9))
	for i := range 5 {
		out, in := locked(i + 1)
		s.Put(coins.Entry{Place: place(byte(i), 3), Coin: coins.Coin{Out: api.TxOut{Value: 2, Script: out}}})
		x.In = append(x.In, api.TxIn{Prev: place(byte(i), 3), Script: in})
	}
	expectFits(t, "five scripts", s, x, 0, 0, 1, api.OK)
	for i := range 5 {
		y := tx.Clone(x)
		y.In[i].Script[0]++
		expectFits(t, "a script that fails", s, y, 0, 0, 0, api.ErrScript)
	}
	y := tx.Clone(x)
	slices.Reverse(y.In)
	expectFits(t, "another order", s, y, 0, 0, 1, api.OK)
	y.In[0].Prev, y.In[4].Prev = y.In[4].Prev, y.In[0].Prev
	expectFits(t, "others' scripts", s, y, 0, 0, 0, api.ErrScript)
}

// signer has the key 5.
type signer struct{}

func (signer) Sign(pub []byte, digest api.Hash) ([]byte, bool) {
	sig, err := curve.Sign([32]byte{31: 5}, digest)
	return sig[:], err == api.OK
}

// TestP16_1FitsSigned: a signature covers the value of the coin.
func TestP16_1FitsSigned(t *testing.T) {
	pub, _ := curve.Public([32]byte{31: 5})
	program := hash.Hash160(pub[:])
	pay, err := script.PayWitness(0, program[:])
	if err != api.OK {
		t.Fatalf("error %d", err)
	}
	mine := coins.Entry{Place: place(1, 2), Coin: coins.Coin{Out: api.TxOut{Value: 1000, Script: pay}}}
	x := spending(outsOf(1000), place(2, 0), place(1, 2))
	in, ok := check.Spend(x, 1, mine.Coin.Out, [][]byte{pub[:]}, signer{})
	if !ok {
		t.Fatalf("Spend made nothing")
	}
	x.In[1] = in
	expectFits(t, "a signed one", setOf(mine, entry(2, 7)), x, 0, 0, 7, api.OK)
	mine.Coin.Out.Value++
	expectFits(t, "another value", setOf(mine, entry(2, 7)), x, 0, 0, 0, api.ErrScript)
}

// Errors that a transaction can have at once, in the order in which Fits tells them.
const (
	badCheck = 1 << iota
	badPlace
	badAge
	badLock
	badSum
	badScript
	allBad
)

func TestP16_1FitsOrder(t *testing.T) {
	for bad := range allBad {
		a, b := entry(1, 100), entry(2, 50)
		x := spending(outsOf(120), place(1, 0), place(2, 0))
		want, fee := api.OK, int64(30)
		if bad&badScript != 0 {
			a.Coin.Out.Script, want = []byte{0}, api.ErrScript
		}
		if bad&badSum != 0 {
			x.Out[0].Value, want = 151, api.ErrRange
		}
		if bad&badLock != 0 {
			x.Lock, x.In[0].Seq, want = 20, 0, api.ErrEarly
		}
		if bad&badAge != 0 {
			a.Coin.Fresh, a.Coin.Height, want = true, 11, api.ErrEarly
		}
		if bad&badPlace != 0 {
			x.In[1].Prev, want = place(3, 0), api.ErrSpent
		}
		if bad&badCheck != 0 {
			x.In = append(x.In, x.In[0])
			want = api.ErrClash
		}
		if want != api.OK {
			fee = 0
		}
		expectFits(t, "one with errors", setOf(a, b), x, 20, 0, fee, want)
	}
}

func TestP16_5CloneAndSame(t *testing.T) {
	base := []coins.Entry{entry(1, 5), entry(2, 6), entry(3, 7)}
	s := setOf(base...)
	if !s.Same(s) || !s.Same(s.Clone()) || !s.Clone().Same(s) || !coins.New().Same(coins.New()) || !setOf(base[2], base[0], base[1]).Same(s) {
		t.Errorf("sets of the same coins aren't the Same")
	}
	for i, change := range []func(e *coins.Entry){
		func(e *coins.Entry) { e.Place.Index++ },
		func(e *coins.Entry) { e.Place.Hash[31]++ },
		func(e *coins.Entry) { e.Coin.Height++ },
		func(e *coins.Entry) { e.Coin.Fresh = true },
		func(e *coins.Entry) { e.Coin.Out.Value++ },
		func(e *coins.Entry) { e.Coin.Out.Script = []byte{0x52} },
		func(e *coins.Entry) { e.Coin.Out.Script = []byte{0x51, 0x51} },
		func(e *coins.Entry) { e.Coin.Out.Script = nil },
	} {
		for at := range base {
			list := slices.Clone(base)
			change(&list[at])
			if other := setOf(list...); s.Same(other) || other.Same(s) {
				t.Errorf("change %d of coin %d: the Same", i, at)
			}
		}
	}
	for _, list := range [][]coins.Entry{nil, base[:2], append(base[:3:3], entry(4, 8))} {
		if other := setOf(list...); s.Same(other) || other.Same(s) {
			t.Errorf("sets of 3 and %d coins are the Same", len(list))
		}
	}
	none, empty := entry(1, 5), entry(1, 5)
	none.Coin.Out.Script, empty.Coin.Out.Script = nil, []byte{}
	if !setOf(none).Same(setOf(empty)) {
		t.Errorf("nil and empty Scripts are different")
	}
	c := s.Clone()
	s.Put(entry(1, 9), entry(4, 1))
	expectSet(t, "a copy", c, base)
	c.Put(entry(5, 1))
	expectSet(t, "what was copied", s, plainSet{entry(1, 9), entry(2, 6), entry(3, 7), entry(4, 1)})
}
