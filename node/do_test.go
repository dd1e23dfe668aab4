package node_test

import (
	"bytes"
	"math"
	"slices"
	"testing"

	"strongbox/api"
	"strongbox/block"
	"strongbox/ledger"
	"strongbox/node"
	"strongbox/spend"
	"strongbox/tx"
)

// TestP26_1Example is the chapter's example.
func TestP26_1Example(t *testing.T) {
	w := worldOf(t, 3, texts()[0])
	w.grow(t, 10)
	for _, e := range w.Coins() {
		if e.Coin.Out.Value != 50*api.Coin {
			t.Errorf("a coin of %d", e.Coin.Out.Value)
		}
	}
	if len(w.Coins()) != 10 {
		t.Errorf("%d coins", len(w.Coins()))
	}
	a := w.do(t, node.Op{Kind: node.Send, Order: order(10 * api.Coin)}, api.OK)
	if state, _ := w.State(a.Id); state != ledger.Pooled || tx.Id(a.Tx) != a.Id {
		t.Errorf("the state %d", state)
	}
	w.grow(t, 1)
	if state, depth := w.State(a.Id); state != ledger.Confirmed || depth != 1 || w.Height() != 11 {
		t.Errorf("the state %d, the depth %d", state, depth)
	}
}

// TestP26_1Block: what a block results in, and its errors.
func TestP26_1Block(t *testing.T) {
	w := worldOf(t, 2, texts()[0])
	empty := all(w)
	b := w.child(w.Tip(), pay(w.Scripts()[1], api.Coin))
	for n := range block.Encode(b) {
		if a := w.Do(node.Op{Kind: node.Block, Data: block.Encode(b)[:n]}); a.Err == api.OK || len(a.Script) != 0 || a.N != 0 || a.Id != (api.Hash{}) {
			t.Errorf("%d bytes: %v", n, a)
		}
	}
	w.do(t, node.Op{Kind: node.Block, Data: append(block.Encode(b), 0)}, api.ErrForm)
	w.receive(t, w.child(api.Hash{1}, pay(open(), 1)), api.ErrNone)
	if all(w) != empty {
		t.Errorf("something has changed")
	}
	a := w.receive(t, b, api.OK)
	if a.Id != id(b) || a.N != 1 || w.Tip() != id(b) || len(w.Scripts()) != 4 || len(w.Own()) != 1 {
		t.Errorf("%v", a)
	}
	w.receive(t, b, api.ErrThere)
	beside := w.child(w.up(1), pay(open(), api.Coin))
	if a := w.receive(t, beside, api.OK); a.N != 0 || a.Id != id(b) || w.Tip() != id(b) {
		t.Errorf("beside: %v", a)
	}
	if a := w.receive(t, w.child(id(beside), pay(open(), api.Coin)), api.OK); a.N != 2 || a.Id != w.Tip() || w.Height() != 2 || len(w.Scripts()) != 2 {
		t.Errorf("the other branch: %v", a)
	}
	// Of a block that can't be connected nothing remains, not even its header.
	wrong := w.child(w.Tip(), pay(open(), 51*api.Coin))
	w.receive(t, wrong, api.ErrRange)
	w.receive(t, wrong, api.ErrRange)
	if w.Tree().Height(id(wrong)) != -1 {
		t.Errorf("a wrong block is there")
	}
	w.receive(t, proven(api.Block{Header: api.Header{Prev: id(wrong), Bits: api.PowLimit}, Txs: w.Block().Txs}), api.ErrNone)
}

// TestP26_1Branch: a branch whose wrong block could not be seen before is refused as often as it comes.
func TestP26_1Branch(t *testing.T) {
	w := worldOf(t, 2, texts()[0])
	w.grow(t, 2)
	wrong := w.child(w.up(1), pay(open(), 51*api.Coin))
	w.receive(t, wrong, api.OK)
	behind := w.child(id(wrong), pay(open(), api.Coin))
	for range 2 {
		w.receive(t, behind, api.ErrState)
		if w.Tree().Banned(id(wrong)) || w.Tree().Height(id(behind)) != -1 {
			t.Errorf("what was refused has changed something")
		}
	}
	w.grow(t, 1)
}

// TestP26_1Tx: a transaction waits, is counted, and recorded if it belongs to the wallet.
func TestP26_1Tx(t *testing.T) {
	w := worldOf(t, 2, texts()[0])
	b := w.child(w.Tip(), pay(open(), api.Coin, 2*api.Coin, 3*api.Coin))
	w.receive(t, b, api.OK)
	w.grow(t, 9)
	foreign := spending(pay(open(), api.Coin-10000), made(b.Txs[0], 0))
	incoming := spending(slices.Concat(pay(open(), api.Coin), pay(w.Scripts()[0], api.Coin-10000)), made(b.Txs[0], 1))
	a := w.do(t, node.Op{Kind: node.Tx, Data: tx.Encode(foreign, true)}, api.OK)
	if a.Id != tx.Id(foreign) || len(w.Own()) != 10-1 || len(w.Waits()) != 1 {
		t.Errorf("foreign: %v", a)
	}
	w.do(t, node.Op{Kind: node.Tx, Data: tx.Encode(foreign, true)}, api.ErrThere)
	a = w.do(t, node.Op{Kind: node.Tx, Data: tx.Encode(incoming, true)}, api.OK)
	if state, _ := w.State(a.Id); state != ledger.Pooled || len(w.Own()) != 10 || w.Balance().Pending != api.Coin-10000 {
		t.Errorf("incoming: the state %d", state)
	}
	for n := range tx.Encode(incoming, true) {
		if a := w.Do(node.Op{Kind: node.Tx, Data: tx.Encode(incoming, true)[:n]}); a.Err != api.ErrEnd {
			t.Errorf("%d bytes: error %d", n, a.Err)
		}
	}
	w.do(t, node.Op{Kind: node.Tx, Data: make([]byte, 100001)}, api.ErrSize)
	w.do(t, node.Op{Kind: node.Tx}, api.ErrEnd)
	w.do(t, node.Op{Kind: node.Tx, Data: tx.Encode(spending(pay(open(), api.Coin-20), made(b.Txs[0], 0)), true)}, api.ErrFee)
	w.do(t, node.Op{Kind: node.Tx, Data: tx.Encode(spending(pay(open(), api.Coin-10000), api.OutPoint{}), true)}, api.ErrSpent)
	w.do(t, node.Op{Kind: node.Tx, Data: tx.Encode(b.Txs[0], true)}, api.ErrForm)
	w.grow(t, 1)
	if len(w.Waits()) != 0 {
		t.Errorf("%d wait", len(w.Waits()))
	}
}

// TestP26_1Estimate: what waits enters the book with its rate, however it comes, and leaves it with a block.
func TestP26_1Estimate(t *testing.T) {
	w := worldOf(t, 2, texts()[0])
	outs := slices.Repeat(pay(open(), api.Coin), 20)
	first := w.child(w.Tip(), outs)
	w.receive(t, first, api.OK)
	w.grow(t, 12)
	for i, fee := range []int64{250, 500, 6400, 12800} {
		for range 2 {
			x := spending(pay(open(), api.Coin-fee), made(first.Txs[0], uint32(2*i)), made(first.Txs[0], uint32(2*i+1)))
			x.Out = append(x.Out, pay(open(), api.Coin)...)
			w.try(t, node.Op{Kind: node.Tx, Data: tx.Encode(x, true)})
		}
	}
	for _, rate := range []int64{9000, 70000} {
		o := order(api.Coin)
		o.Rate = rate
		a := w.do(t, node.Op{Kind: node.Send, Order: o}, api.OK)
		w.do(t, node.Op{Kind: node.Bump, Id: a.Id, Rate: 3 * rate}, api.OK)
	}
	if _, err := w.Estimate(1, 50); err != api.ErrNone {
		t.Errorf("without blocks: error %d", err)
	}
	empty := w.child(w.Tip(), pay(open(), 1))
	w.receive(t, empty, api.OK)
	w.grow(t, 1)
	one, err := w.Estimate(1, 50)
	two, err2 := w.Estimate(2, 50)
	if err != api.ErrNone || err2 != api.OK || two == 0 || one != 0 {
		t.Errorf("Estimate = %d, error %d; %d, error %d", one, err, two, err2)
	}
	// After a fork all of it waits again, but is counted only once.
	w.fork(t, 1, open())
	w.grow(t, 1)
}

// TestP26_1Desc: descriptors, as many as there may be.
func TestP26_1Desc(t *testing.T) {
	w := worldOf(t, 1)
	w.receive(t, w.child(w.Tip(), pay(open(), api.Coin)), api.OK)
	for n := range 8 {
		if a := w.do(t, node.Op{Kind: node.Desc, Text: "pkh(" + key(n) + "/*)", N: 7}, api.OK); a.N != n {
			t.Errorf("the number %d; want %d", a.N, n)
		}
		w.do(t, node.Op{Kind: node.Desc, Text: "pkh(" + key(n) + "/*)"}, api.ErrThere)
	}
	w.do(t, node.Op{Kind: node.Desc, Text: "pkh(" + key(9) + "/*)"}, api.ErrSize)
	w.do(t, node.Op{Kind: node.Desc, Text: "pkh()"}, api.ErrForm)
	w.do(t, node.Op{Kind: node.Desc, Text: "pkh(" + key(9) + "/*)#aaaaaaaa"}, api.ErrSum)
	w.do(t, node.Op{Kind: node.Desc}, api.ErrForm)
	if len(w.Scripts()) != 8 {
		t.Errorf("%d scripts", len(w.Scripts()))
	}
}

// TestP26_1Later: a descriptor that comes later, or an index that is handed out, finds what was paid before.
func TestP26_1Later(t *testing.T) {
	other := worldOf(t, 6, texts()[0])
	s := other.Scripts()
	w := worldOf(t, 2)
	for i := range s {
		w.receive(t, w.child(w.Tip(), pay(s[[]int{1, 5, 3, 0, 2, 4}[i]], api.Coin)), api.OK)
	}
	w.do(t, node.Op{Kind: node.Desc, Text: texts()[0]}, api.OK)
	if len(w.Own()) != 6 || len(w.Scripts()) != 8 || w.Balance().Young != 6*api.Coin {
		t.Errorf("%d are recorded, %d scripts, %v", len(w.Own()), len(w.Scripts()), w.Balance())
	}
	u := worldOf(t, 1, texts()[0])
	for i := 5; i > 0; i-- {
		u.receive(t, u.child(u.Tip(), pay(s[i], api.Coin)), api.OK)
	}
	if len(u.Own()) != 0 || len(u.Scripts()) != 1 {
		t.Errorf("%d are recorded, %d scripts", len(u.Own()), len(u.Scripts()))
	}
	a := u.do(t, node.Op{Kind: node.Take}, api.OK)
	if a.Place.Index != 0 || !bytes.Equal(a.Script, s[0]) || len(u.Own()) != 5 || len(u.Scripts()) != 7 {
		t.Errorf("%v: %d are recorded, %d scripts", a.Place, len(u.Own()), len(u.Scripts()))
	}
}

// TestP26_1Take: indices are handed out, once each.
func TestP26_1Take(t *testing.T) {
	w := worldOf(t, 2, texts()...)
	scripts := w.Scripts()
	for i := range uint32(2) {
		a := w.do(t, node.Op{Kind: node.Take, N: 2}, api.OK)
		if a.Place.Desc != 2 || a.Place.Index != i || !bytes.Equal(a.Script, scripts[3+i]) {
			t.Errorf("Take = %v", a)
		}
	}
	for range 3 {
		a := w.do(t, node.Op{Kind: node.Take, N: 1}, api.OK)
		if a.Place.Desc != 1 || a.Place.Index != 0 || !bytes.Equal(a.Script, scripts[2]) {
			t.Errorf("Take = %v", a)
		}
	}
	for _, n := range []int{-1, 4, 5, math.MinInt, math.MaxInt} {
		w.do(t, node.Op{Kind: node.Take, N: n}, api.ErrArg)
	}
}

// TestP26_1Send: with change an index is handed out, without it none.
func TestP26_1Send(t *testing.T) {
	w := worldOf(t, 2, texts()...)
	w.grow(t, 12)
	before := len(w.Scripts())
	o := order(10 * api.Coin)
	o.Change = 2
	a := w.do(t, node.Op{Kind: node.Send, Order: o}, api.OK)
	if len(a.Tx.Out) != 2 || len(w.Scripts()) != before+1 || len(w.Own()) != 13 || len(w.Waits()) != 1 || w.Balance().Pending != a.Tx.Out[1].Value {
		t.Errorf("Send = %v, %d scripts", a, len(w.Scripts()))
	}
	if b := w.do(t, node.Op{Kind: node.Take, N: 2}, api.OK); b.Place.Index != 1 {
		t.Errorf("Take = %v", b.Place)
	}
	rest := w.Spendable()
	total := int64(0)
	for _, e := range rest {
		total += e.Coin.Out.Value
	}
	o.Pay[0].Value = total - 500
	a = w.do(t, node.Op{Kind: node.Send, Order: o}, api.OK)
	if len(a.Tx.Out) != 1 || len(w.Scripts()) != before+2 {
		t.Errorf("Send = %v, %d scripts", a, len(w.Scripts()))
	}
	w.do(t, node.Op{Kind: node.Send, Order: o}, api.ErrFunds)
	w.do(t, node.Op{Kind: node.Send, Order: spend.Order{}}, api.ErrArg)
	o.Rate = 999
	w.do(t, node.Op{Kind: node.Send, Order: o}, api.ErrFee)
	w.grow(t, 2)
}

// TestP26_1Pool: what the pool doesn't accept isn't sent, and no index is handed out.
func TestP26_1Pool(t *testing.T) {
	w := worldOf(t, 2, texts()[0])
	w.grow(t, 12)
	o := spend.Order{Pay: pay(make([]byte, 21000), api.Coin), Rate: 1000}
	w.do(t, node.Op{Kind: node.Send, Order: o}, api.ErrFull)
	o = spend.Order{Pay: pay(make([]byte, 19000), api.Coin, api.Coin, api.Coin, api.Coin, api.Coin, api.Coin), Rate: 1000}
	w.do(t, node.Op{Kind: node.Send, Order: o}, api.ErrSize)
	if a := w.do(t, node.Op{Kind: node.Take}, api.OK); a.Place.Index != 1 {
		t.Errorf("Take = %v", a.Place)
	}
	// What is behind it makes it too expensive to be replaced.
	a := w.do(t, node.Op{Kind: node.Send, Order: spend.Order{Pay: pay(open(), 20*api.Coin), Rate: 1000}}, api.OK)
	behind := spending(pay(open(), 19*api.Coin), made(a.Tx, 0))
	w.do(t, node.Op{Kind: node.Tx, Data: tx.Encode(behind, true)}, api.OK)
	w.do(t, node.Op{Kind: node.Bump, Id: a.Id, Rate: 5000}, api.ErrClash)
	w.do(t, node.Op{Kind: node.Bump, Id: a.Id, Rate: 2000000000}, api.OK)
	if len(w.Waits()) != 1 {
		t.Errorf("%d wait", len(w.Waits()))
	}
}

// TestP26_1Room: so many virtual bytes may wait.
func TestP26_1Room(t *testing.T) {
	w := worldOf(t, 2, texts()[0])
	first := w.child(w.Tip(), pay(open(), 10*api.Coin, 10*api.Coin))
	w.receive(t, first, api.OK)
	w.grow(t, 9)
	sized := func(n int) node.Op {
		x := spending(pay(make([]byte, n), api.Coin), made(first.Txs[0], 0))
		x.Out[0].Script = make([]byte, 2*n-tx.Virtual(x))
		if tx.Virtual(x) != n {
			t.Fatalf("%d virtual bytes; want %d", tx.Virtual(x), n)
		}
		return node.Op{Kind: node.Tx, Data: tx.Encode(x, true)}
	}
	w.do(t, sized(20001), api.ErrFull)
	w.do(t, sized(20000), api.OK)
	small := spending(pay(open(), 9*api.Coin), made(first.Txs[0], 1))
	w.do(t, node.Op{Kind: node.Tx, Data: tx.Encode(small, true)}, api.OK)
	if list := w.Waits(); len(list) != 1 || list[0].Id != tx.Id(small) {
		t.Errorf("%d wait", len(list))
	}
}

// TestP26_1Found: the index that change takes lets the wallet find what was paid further ahead.
func TestP26_1Found(t *testing.T) {
	s := worldOf(t, 6, texts()[0]).Scripts()
	w := worldOf(t, 1, texts()[0])
	w.receive(t, w.child(w.Tip(), pay(s[0], api.Coin)), api.OK)
	w.receive(t, w.child(w.Tip(), pay(s[2], api.Coin)), api.OK)
	w.receive(t, w.child(w.Tip(), pay(s[3], api.Coin)), api.OK)
	for range 9 {
		w.receive(t, w.child(w.Tip(), pay(open(), api.Coin)), api.OK)
	}
	if len(w.Own()) != 1 || len(w.Scripts()) != 2 {
		t.Errorf("%d are recorded, %d scripts", len(w.Own()), len(w.Scripts()))
	}
	a := w.do(t, node.Op{Kind: node.Send, Order: order(api.Coin / 2)}, api.OK)
	if len(a.Tx.Out) != 2 || !bytes.Equal(a.Tx.Out[1].Script, s[1]) || len(w.Own()) != 4 || len(w.Scripts()) != 5 {
		t.Errorf("%d are recorded, %d scripts", len(w.Own()), len(w.Scripts()))
	}
	if list := w.Own(); tx.Id(list[1]) != a.Id {
		t.Errorf("what is sent isn't recorded ahead of what is found")
	}
}

// TestP26_1Bump: what is made again is recorded, and waits in place of the other one.
func TestP26_1Bump(t *testing.T) {
	w := worldOf(t, 2, texts()[0])
	w.grow(t, 12)
	a := w.do(t, node.Op{Kind: node.Send, Order: order(api.Coin)}, api.OK)
	b := w.do(t, node.Op{Kind: node.Bump, Id: a.Id, Rate: 3000}, api.OK)
	if tx.Id(b.Tx) != b.Id || b.Id == a.Id || len(w.Waits()) != 1 || w.Waits()[0].Id != b.Id || len(w.Own()) != 14 {
		t.Errorf("Bump = %v", b)
	}
	for id, want := range map[api.Hash]int{a.Id: ledger.Inactive, b.Id: ledger.Pooled} {
		if state, _ := w.State(id); state != want {
			t.Errorf("the state %d; want %d", state, want)
		}
	}
	w.do(t, node.Op{Kind: node.Bump, Id: b.Id, Rate: 999}, api.ErrFee)
	w.do(t, node.Op{Kind: node.Bump, Rate: 1000}, api.ErrNone)
	w.do(t, node.Op{Kind: node.Abandon, Id: b.Id}, api.ErrState)
	w.do(t, node.Op{Kind: node.Abandon, Id: a.Id}, api.OK)
	if state, _ := w.State(a.Id); state != ledger.Abandoned {
		t.Errorf("the state %d", state)
	}
	w.do(t, node.Op{Kind: node.Abandon, Id: a.Id}, api.ErrState)
	w.do(t, node.Op{Kind: node.Abandon}, api.ErrNone)
	w.do(t, node.Op{Kind: node.Bump, Id: a.Id, Rate: 9000}, api.ErrState)
	w.grow(t, 1)
	if state, _ := w.State(a.Id); state != ledger.Conflicted {
		t.Errorf("the state %d", state)
	}
}

// TestP26_1Marks: locks and labels.
func TestP26_1Marks(t *testing.T) {
	w := worldOf(t, 2, texts()[0])
	w.grow(t, 12)
	place := w.Spendable()[1].Place
	for _, on := range []bool{true, true, false, false} {
		w.do(t, node.Op{Kind: node.Lock, Place: place, On: on}, api.OK)
		if w.Locked(place) != on || w.Locked(api.OutPoint{}) || len(w.Spendable()) != map[bool]int{true: 2, false: 3}[on] {
			t.Errorf("Locked = %t", w.Locked(place))
		}
	}
	for _, c := range []struct {
		script []byte
		text   string
		err    api.Errno
		want   string
	}{
		{w.Scripts()[0], "rent", api.OK, "rent"}, {nil, "nothing", api.OK, "nothing"}, {w.Scripts()[0], string(make([]byte, 101)), api.ErrSize, "rent"},
		{make([]byte, 60000), "long", api.OK, "long"}, {make([]byte, 60001), "longer", api.ErrSize, ""}, {w.Scripts()[0], "", api.OK, ""},
	} {
		w.do(t, node.Op{Kind: node.Label, Data: c.script, Text: c.text}, c.err)
		if w.Labeled(c.script) != c.want {
			t.Errorf("Labeled = %q; want %q", w.Labeled(c.script), c.want)
		}
	}
	for _, n := range []int{0, 5, -1, 100, math.MinInt, math.MaxInt} {
		w.do(t, node.Op{Kind: node.Rescan, N: n}, api.OK)
	}
}

// TestP26_1Kind: there are ten kinds.
func TestP26_1Kind(t *testing.T) {
	w := worldOf(t, 2, texts()[0])
	for _, kind := range []int{0, 11, 12, -1, 257, 1 << 32, math.MinInt, math.MaxInt} {
		w.do(t, node.Op{Kind: kind, Text: texts()[1]}, api.ErrArg)
	}
	for i, kind := range []int{node.Block, node.Tx, node.Desc, node.Take, node.Send, node.Bump, node.Abandon, node.Rescan, node.Lock, node.Label} {
		if kind != i+1 {
			t.Errorf("the kind %d; want %d", kind, i+1)
		}
	}
}

// TestP26_1Ignored: what a kind doesn't use has no effect.
func TestP26_1Ignored(t *testing.T) {
	w := worldOf(t, 2, texts()[0])
	o := node.Op{Kind: node.Take, Data: make([]byte, 70000), Text: string(make([]byte, 70000)), On: true, Id: api.Hash{1}, Place: api.OutPoint{Index: 4}, Rate: -1, Order: spend.Order{Pay: make([]api.TxOut, 300)}}
	w.do(t, o, api.OK)
	w.open(t)
	o.Kind, o.N = node.Rescan, -7
	w.do(t, o, api.OK)
	w.open(t)
}

// TestP26_1Size: what is too long to be stored is refused, after all else.
func TestP26_1Size(t *testing.T) {
	w := worldOf(t, 2, texts()[0])
	whole := func(n int) api.Block { return w.child(w.Tip(), pay(make([]byte, n), 1)) }
	extra := len(block.Encode(whole(50000))) - 50000
	w.receive(t, whole(60001-extra), api.ErrSize)
	w.receive(t, whole(90000), api.ErrSize)
	wrong := whole(90000)
	wrong.Merkle[0]++
	for wrong.Nonce = 0; !block.Proved(wrong.Header); wrong.Nonce++ {
	}
	w.receive(t, wrong, api.ErrSum)
	w.receive(t, whole(60000-extra), api.OK)
	if w.Height() != 1 {
		t.Errorf("the height %d", w.Height())
	}
	w.open(t)
}
