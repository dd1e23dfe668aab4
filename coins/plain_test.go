package coins_test

import (
	"bytes"
	"math"
	"math/big"
	"math/rand"
	"slices"
	"sort"
	"testing"

	"strongbox/api"
	"strongbox/check"
	"strongbox/coins"
	"strongbox/tx"
)

// plainSet is a set as the document says it: a list of coins in no order.
type plainSet []coins.Entry

func (p plainSet) find(at api.OutPoint) int {
	return slices.IndexFunc(p, func(e coins.Entry) bool { return e.Place == at })
}

func (p plainSet) without(i int) plainSet {
	return slices.Concat(p[:i], p[i+1:])
}

func (p plainSet) put(e coins.Entry) plainSet {
	if i := p.find(e.Place); i >= 0 {
		p = p.without(i)
	}
	return append(slices.Clone(p), e)
}

// sumOf returns a sum that amount.Add would accept, and whether it would.
func sumOf(values ...int64) (int64, bool) {
	sum, ok := new(big.Int), true
	for _, v := range values {
		sum.Add(sum, big.NewInt(v))
		ok = ok && v >= 0 && sum.Cmp(big.NewInt(2100000000000000)) <= 0
	}
	return sum.Int64(), ok
}

func outValues(list []api.TxOut) []int64 {
	var values []int64
	for _, o := range list {
		values = append(values, o.Value)
	}
	return values
}

func (p plainSet) fits(t api.Tx, height int, time uint32) (int64, api.Errno) {
	if err := tx.Check(t); err != api.OK {
		return 0, err
	}
	if tx.Coinbase(t) {
		return 0, api.ErrForm
	}
	var outs []api.TxOut
	early := !tx.Final(t, height, time)
	for _, in := range t.In {
		i := p.find(in.Prev)
		if i < 0 {
			return 0, api.ErrSpent
		}
		c := p[i].Coin
		age := new(big.Int).Sub(big.NewInt(int64(height)), big.NewInt(int64(c.Height)))
		early = early || c.Fresh && age.Cmp(big.NewInt(10)) < 0
		outs = append(outs, c.Out)
	}
	if early {
		return 0, api.ErrEarly
	}
	has, ok := sumOf(outValues(outs)...)
	pays, _ := sumOf(outValues(t.Out)...)
	if !ok || has < pays {
		return 0, api.ErrRange
	}
	for i, out := range outs {
		if err := check.Input(t, i, out); err != api.OK {
			return 0, err
		}
	}
	return has - pays, api.OK
}

// connect returns the set after a block, or the set as it was.
func (p plainSet) connect(b api.Block, height int, time uint32) (plainSet, []coins.Entry, api.Errno) {
	for i, t := range b.Txs {
		if tx.Coinbase(t) != (i == 0) {
			return p, nil, api.ErrForm
		}
	}
	if len(b.Txs) == 0 {
		return p, nil, api.ErrForm
	}
	q, money := p, []int64{0}
	var undo []coins.Entry
	if height >= 0 {
		money[0] = 5000000000 >> min(height/150, 63)
	}
	for i, t := range b.Txs {
		if i > 0 {
			fee, err := q.fits(t, height, time)
			if err != api.OK {
				return p, nil, err
			}
			money = append(money, fee)
		}
		for j := range t.Out {
			if q.find(api.OutPoint{Hash: tx.Id(t), Index: uint32(j)}) >= 0 {
				return p, nil, api.ErrThere
			}
		}
		for _, in := range t.In {
			if i > 0 {
				undo = append(undo, q[q.find(in.Prev)])
				q = q.without(q.find(in.Prev))
			}
		}
		for j, o := range t.Out {
			q = q.put(coins.Entry{Place: api.OutPoint{Hash: tx.Id(t), Index: uint32(j)}, Coin: coins.Coin{Out: o, Height: height, Fresh: i == 0}})
		}
	}
	may, ok := sumOf(money...)
	makes, fine := sumOf(outValues(b.Txs[0].Out)...)
	if !ok || !fine || makes > may {
		return p, nil, api.ErrRange
	}
	return q, undo, api.OK
}

// disconnect returns the set before a block, or the set as it is and false.
func (p plainSet) disconnect(b api.Block, undo []coins.Entry) (plainSet, bool) {
	q := p
	for i := len(b.Txs) - 1; i >= 0; i-- {
		t := b.Txs[i]
		for j, o := range t.Out {
			k := q.find(api.OutPoint{Hash: tx.Id(t), Index: uint32(j)})
			if k < 0 || q[k].Coin.Out.Value != o.Value || !bytes.Equal(q[k].Coin.Out.Script, o.Script) {
				return p, false
			}
			q = q.without(k)
		}
		for j := len(t.In) - 1; j >= 0 && i > 0; j-- {
			last := len(undo) - 1
			if last < 0 || undo[last].Place != t.In[j].Prev || q.find(t.In[j].Prev) >= 0 {
				return p, false
			}
			q, undo = q.put(undo[last]), undo[:last]
		}
	}
	if len(undo) > 0 {
		return p, false
	}
	return q, true
}

func (p plainSet) sorted() []coins.Entry {
	list := slices.Clone(p)
	sort.Slice(list, func(i, j int) bool {
		a, b := list[i].Place, list[j].Place
		for k := range a.Hash {
			if a.Hash[k] != b.Hash[k] {
				return a.Hash[k] < b.Hash[k]
			}
		}
		return a.Index < b.Index
	})
	return list
}

func sameEntry(a, b coins.Entry) bool {
	return a.Place == b.Place && a.Coin.Height == b.Coin.Height && a.Coin.Fresh == b.Coin.Fresh && a.Coin.Out.Value == b.Coin.Out.Value && bytes.Equal(a.Coin.Out.Script, b.Coin.Out.Script)
}

func sameEntries(a, b []coins.Entry) bool { return slices.EqualFunc(a, b, sameEntry) }

// expectSet holds all that a set shows against the plain one.
func expectSet(t *testing.T, what string, s *coins.Set, p plainSet) {
	t.Helper()
	if s.Count() != len(p) || !sameEntries(s.List(), p.sorted()) {
		t.Fatalf("%s: %d coins %v; want %d: %v", what, s.Count(), s.List(), len(p), p.sorted())
	}
	for _, e := range p {
		if c, ok := s.Get(e.Place); !ok || !sameEntry(coins.Entry{Place: e.Place, Coin: c}, e) {
			t.Fatalf("%s: Get = %v, %v; want %v", what, c, ok, e)
		}
		other := e.Place
		other.Index ^= 1 << 20
		if c, ok := s.Get(other); ok || !isZero(c) {
			t.Fatalf("%s: Get of no coin = %v, %v", what, c, ok)
		}
	}
	made := coins.New()
	made.Put(p...)
	if !s.Same(made) || !made.Same(s) {
		t.Fatalf("%s: not the Same as a set of the same coins", what)
	}
}

func isZero(c coins.Coin) bool {
	return c.Height == 0 && !c.Fresh && c.Out.Value == 0 && len(c.Out.Script) == 0
}

// world makes blocks at random on a plain set.
type world struct {
	*rand.Rand
	p      plainSet
	height int
	spent  []api.OutPoint
	made   int
}

// locked returns a script that n of 1 to 16 fulfils, and the input's Script that does.
func locked(n int) (out, in []byte) { return []byte{byte(0x50 + n), 0x87}, []byte{byte(0x50 + n)} }

// newWorld returns a world with some old coins, and a set of the same coins.
func newWorld(seed int64) (*world, *coins.Set) {
	w := &world{Rand: rand.New(rand.NewSource(seed))}
	for i := range byte(20) {
		e := entry(100+i, w.Int63n(1000))
		e.Coin.Out.Script, _ = locked(1 + int(i)%16)
		w.p = append(w.p, e)
	}
	return w, setOf(w.p...)
}

func (w *world) outs(money int64) []api.TxOut {
	var list []api.TxOut
	for n := 1 + w.Intn(3); n > 0; n-- {
		out, _ := locked(1 + w.Intn(16))
		list = append(list, api.TxOut{Value: w.Int63n(money/3 + 1), Script: out})
	}
	return list
}

// pay returns a transaction that spends some coins of a set, and often has something wrong.
func (w *world) pay(q plainSet) api.Tx {
	t := api.Tx{Version: int32(w.made)}
	w.made++
	money := int64(0)
	for n := 1 + w.Intn(3); n > 0; n-- {
		e := q[w.Intn(len(q))]
		if e.Coin.Fresh && w.Intn(30) > 0 && w.height-e.Coin.Height < 10 {
			continue
		}
		in := api.TxIn{Prev: e.Place, Seq: math.MaxUint32}
		if len(e.Coin.Out.Script) > 0 {
			in.Script = []byte{e.Coin.Out.Script[0]}
		}
		t.In = append(t.In, in)
		money += e.Coin.Out.Value
	}
	t.Out = w.outs(money)
	if len(t.In) == 0 {
		return t
	}
	i := w.Intn(len(t.In))
	switch w.Intn(30) {
	case 0:
		t.In[i].Script = []byte{0x50}
	case 1:
		t.In[i].Prev.Index += 7
	case 2:
		t.Out[0].Value = money + 1
	case 3:
		t.Lock, t.In[i].Seq = uint32(w.height+w.Intn(2)), 5
	case 4:
		t.Out = nil
	case 5:
		if len(w.spent) > 0 {
			t.In[i].Prev = w.spent[w.Intn(len(w.spent))]
		}
	case 6:
		t.Out[0].Value = -1
	}
	return t
}

// block returns a block that often is right.
func (w *world) block() api.Block {
	first := coinbase(w.made, w.outs(w.Int63n(60*api.Coin))...)
	w.made++
	b := api.Block{Txs: []api.Tx{first}}
	q := w.p
	for n := w.Intn(5); n > 0 && len(q) > 0; n-- {
		t := w.pay(q)
		if len(t.In) == 0 {
			continue
		}
		b.Txs = append(b.Txs, t)
		for i, o := range t.Out {
			q = q.put(coins.Entry{Place: api.OutPoint{Hash: tx.Id(t), Index: uint32(i)}, Coin: coins.Coin{Out: o}})
		}
	}
	switch w.Intn(20) {
	case 0:
		b.Txs[0].Out = outsOf(50*api.Coin, 1)
	case 1:
		b.Txs = append(b.Txs, b.Txs[w.Intn(len(b.Txs))])
	case 2:
		b.Txs = b.Txs[1:]
	}
	return b
}

// TestP16_2Random holds a set to which blocks are connected, and from which they are disconnected, against the plain one.
func TestP16_2Random(t *testing.T) {
	seen := map[api.Errno]int{}
	for seed := range int64(6) {
		w, s := newWorld(seed)
		var blocks []api.Block
		var undos []coins.Undo
		for step := range 250 {
			if n := len(blocks); n > 0 && w.Intn(4) == 0 {
				expectBack(t, s, w, blocks[n-1], undos[n-1])
				blocks, undos = blocks[:n-1], undos[:n-1]
				w.height--
			}
			b := w.block()
			q, undo, err := w.p.connect(b, w.height, 0)
			was := s.Clone()
			got, e := s.Connect(b, w.height, 0)
			seen[e]++
			if e != err || !sameEntries(got, undo) {
				t.Fatalf("seed %d, step %d: Connect = %v, %d; want %v, %d", seed, step, got, e, undo, err)
			}
			if s.Same(was) != (e != api.OK) {
				t.Fatalf("seed %d, step %d: Same after the error %d", seed, step, e)
			}
			expectSet(t, "after Connect", s, q)
			expectSet(t, "what it was", was, w.p)
			if e == api.OK {
				blocks, undos = append(blocks, b), append(undos, got)
				w.p = q
				w.height++
				for _, u := range got {
					w.spent = append(w.spent, u.Place)
				}
			}
		}
	}
	for _, e := range []api.Errno{api.OK, api.ErrForm, api.ErrRange, api.ErrScript, api.ErrSpent, api.ErrEarly, api.ErrClash} {
		if seen[e] < 8 {
			t.Errorf("only %d blocks with the error %d", seen[e], e)
		}
	}
}

// expectBack disconnects a block, after it tried to do so with other bytes or another undo.
func expectBack(t *testing.T, s *coins.Set, w *world, b api.Block, u coins.Undo) {
	t.Helper()
	for range 6 {
		other, undo := w.spoilt(b, u)
		q, ok := w.p.disconnect(other, undo)
		if was := s.Clone(); ok {
			if e := was.Disconnect(other, undo); e != api.OK {
				t.Fatalf("Disconnect: error %d", e)
			}
			expectSet(t, "after another Disconnect", was, q)
			continue
		}
		if e := s.Disconnect(other, undo); e != api.ErrState {
			t.Fatalf("Disconnect: error %d; want ErrState", e)
		}
		expectSet(t, "after a Disconnect that failed", s, w.p)
	}
	q, ok := w.p.disconnect(b, u)
	if e := s.Disconnect(b, u); e != api.OK || !ok {
		t.Fatalf("Disconnect: error %d", e)
	}
	expectSet(t, "after Disconnect", s, q)
	w.p = q
}

// spoilt returns a block and its undo with a change.
func (w *world) spoilt(b api.Block, u coins.Undo) (api.Block, coins.Undo) {
	b.Txs, u = slices.Clone(b.Txs), slices.Clone(u)
	i := w.Intn(len(b.Txs))
	b.Txs[i] = tx.Clone(b.Txs[i])
	k := w.Intn(len(u) + 1)
	switch w.Intn(9) {
	case 0:
		u = slices.Insert(u, k, coins.Entry{Place: api.OutPoint{Index: 5}})
	case 1:
		b.Txs = slices.Delete(b.Txs, i, i+1)
	case 2:
		b.Txs = slices.Insert(b.Txs, w.Intn(len(b.Txs)+1), b.Txs[i])
	case 3:
		b.Txs[i].Lock++
	case 4:
		slices.Reverse(u)
	case 5:
		slices.Reverse(b.Txs)
	}
	if k == len(u) || k >= len(u) {
		return b, u
	}
	switch w.Intn(5) {
	case 0:
		u = slices.Delete(u, k, k+1)
	case 1:
		u[k].Place.Index++
	case 2:
		u[k].Coin.Out.Value++
	case 3:
		u[k].Coin.Height, u[k].Coin.Fresh = -5, !u[k].Coin.Fresh
	case 4:
		u[k].Place.Hash[31]++
	}
	return b, u
}
