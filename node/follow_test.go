package node_test

import (
	"bytes"
	"fmt"
	"math/rand"
	"slices"
	"testing"

	"strongbox/api"
	"strongbox/block"
	"strongbox/desc"
	"strongbox/disk"
	"strongbox/ledger"
	"strongbox/node"
	"strongbox/tx"
)

// scriptsOf returns the scripts of descriptors for the indices from 0 on, so many of each one.
func scriptsOf(t *testing.T, texts []string, n int) [][][]byte {
	t.Helper()
	var all [][][]byte
	for _, s := range texts {
		d, err := desc.Parse(s)
		if err != api.OK {
			t.Fatalf("a descriptor: error %d", err)
		}
		var list [][]byte
		for i := range uint32(n) {
			x, _ := d.At(i)
			list = append(list, x.Script)
		}
		if !d.Ranged() {
			list = list[:1]
		}
		all = append(all, list)
	}
	return all
}

// expectLeast: the wallet has the indices below the greatest one that was handed out or paid to on the best chain, plus one, plus the gap, and all coins of these.
func (w *world) expectLeast(t *testing.T, what string, scripts [][][]byte, handed []int) {
	t.Helper()
	c := w.plain.Chain
	paid := func(s []byte) bool {
		for h := range c.Height() + 1 {
			b, _ := c.At(h)
			for _, x := range b.Txs {
				if slices.ContainsFunc(x.Out, func(o api.TxOut) bool { return bytes.Equal(o.Script, s) }) {
					return true
				}
			}
		}
		return false
	}
	var want [][]byte
	for n, list := range scripts {
		end := min(handed[n]+w.plain.gap, len(list))
		for i := 0; i < end; i++ {
			if paid(list[i]) {
				end = min(max(end, i+1+w.plain.gap), len(list))
			}
		}
		want = append(want, list[:end]...)
	}
	if got := w.Scripts(); fmt.Sprint(got) != fmt.Sprint(want) {
		t.Errorf("%s: %d scripts; want %d", what, len(got), len(want))
	}
	n := 0
	for _, e := range c.Coins() {
		if slices.ContainsFunc(want, func(s []byte) bool { return bytes.Equal(s, e.Coin.Out.Script) }) {
			n++
		}
	}
	if len(w.Coins()) != n {
		t.Errorf("%s: %d coins; want %d", what, len(w.Coins()), n)
	}
}

// TestP26_4Fork: what lost blocks paid to doesn't count, what was handed out does.
func TestP26_4Fork(t *testing.T) {
	w := worldOf(t, 3, texts()...)
	scripts := scriptsOf(t, texts(), 30)
	expect := func(what string, handed ...int) {
		t.Helper()
		w.expectLeast(t, what, scripts, handed)
	}
	expect("nothing", 0, 0, 0, 0)
	w.grow(t, 2)
	expect("two blocks", 0, 0, 0, 0)
	far := slices.Concat(pay(scripts[0][2], api.Coin), pay(scripts[1][0], api.Coin), pay(scripts[3][1], api.Coin))
	w.receive(t, w.child(w.Tip(), far), api.OK)
	w.receive(t, w.child(w.Tip(), pay(scripts[0][5], api.Coin)), api.OK)
	w.receive(t, w.child(w.Tip(), pay(scripts[0][12], api.Coin)), api.OK)
	expect("paid", 0, 0, 0, 0)
	if len(w.Scripts()) != 9+1+3+5 {
		t.Errorf("%d scripts", len(w.Scripts()))
	}
	for range 2 {
		a := w.do(t, node.Op{Kind: node.Take}, api.OK)
		if a.Place.Index < 6 {
			t.Errorf("Take = %v", a.Place)
		}
	}
	w.do(t, node.Op{Kind: node.Take, N: 1}, api.OK)
	w.do(t, node.Op{Kind: node.Take, N: 2}, api.OK)
	expect("handed out", 8, 0, 1, 0)
	w.fork(t, 3, open())
	expect("lost", 8, 0, 1, 0)
	if len(w.Scripts()) != 11+1+4+3 {
		t.Errorf("%d scripts", len(w.Scripts()))
	}
	a := w.do(t, node.Op{Kind: node.Take}, api.OK)
	b := w.do(t, node.Op{Kind: node.Take, N: 3}, api.OK)
	if a.Place.Index != 8 || b.Place.Index != 0 {
		t.Errorf("Take = %v, %v", a.Place, b.Place)
	}
	w.fork(t, 2, scripts[0][11])
	expect("paid elsewhere", 9, 0, 1, 1)
	w.fork(t, 4, scripts[3][3])
	expect("lost again", 9, 0, 1, 1)
	w.open(t)
	expect("opened", 9, 0, 1, 1)
}

// TestP26_4Change: the index of change counts as handed out, even if its transaction is gone.
func TestP26_4Change(t *testing.T) {
	w := worldOf(t, 2, texts()...)
	scripts := scriptsOf(t, texts(), 20)
	w.grow(t, 12)
	o := order(api.Coin)
	o.Change = 3
	a := w.do(t, node.Op{Kind: node.Send, Order: o}, api.OK)
	w.expectLeast(t, "sent", scripts, []int{0, 0, 0, 1})
	w.grow(t, 1)
	w.fork(t, 1, open())
	w.expectLeast(t, "waiting again", scripts, []int{0, 0, 0, 1})
	if state, _ := w.State(a.Id); state != ledger.Pooled {
		t.Errorf("the state %d", state)
	}
	// The blocks from the first one on are lost, and with them what it spends: other coinbases are in place of them.
	w.fork(t, w.Height(), open())
	if state, _ := w.State(a.Id); state != ledger.Conflicted || len(w.Waits()) != 0 {
		t.Errorf("the state %d", state)
	}
	w.expectLeast(t, "gone", scripts, []int{0, 0, 0, 1})
	o.Change = 1
	w.do(t, node.Op{Kind: node.Send, Order: o}, api.ErrFunds)
}

// TestP26_4Lost: what lost blocks had waits again, in its order, except coinbases; what spends these is gone.
func TestP26_4Lost(t *testing.T) {
	w := worldOf(t, 2, texts()[0])
	first := w.child(w.Tip(), pay(open(), api.Coin, api.Coin, api.Coin, api.Coin, api.Coin))
	w.receive(t, first, api.OK)
	w.grow(t, 10)
	var list []api.Tx
	last := first.Txs[0]
	for n := range uint32(4) {
		x := spending(pay(open(), api.Coin-10000-int64(n)), made(first.Txs[0], n+1))
		if n > 0 {
			x.In = append(x.In, api.TxIn{Prev: made(last, 0)})
			x.Out[0].Value += last.Out[0].Value - 10000
		}
		list = append(list, x)
		last = x
	}
	var lost []api.Tx
	for _, x := range list[:3] {
		b := w.child(w.Tip(), pay(open(), api.Coin), x)
		w.receive(t, b, api.OK)
		lost = append(lost, b.Txs[0])
	}
	w.do(t, node.Op{Kind: node.Tx, Data: tx.Encode(list[3], true)}, api.OK)
	w.fork(t, 3, open())
	var ids, want []api.Hash
	for _, e := range w.Waits() {
		ids = append(ids, e.Id)
	}
	for _, x := range list {
		want = append(want, tx.Id(x))
	}
	if !slices.Equal(ids, want) {
		t.Errorf("%x wait; want %x", ids, want)
	}
	w.grow(t, 1)
	if len(w.Waits()) != 0 {
		t.Errorf("%d wait", len(w.Waits()))
	}
	for _, x := range lost {
		if _, ok := w.plain.Chain.Where(tx.Id(x)); ok {
			t.Errorf("a lost coinbase is there")
		}
	}
}

// shuffled returns blocks in another order: parents first, those of the same height in the same order.
func shuffled(r *rand.Rand, list []api.Block, height func(b api.Block) int) []api.Block {
	list = slices.Clone(list)
	for range 200 {
		i := r.Intn(len(list) - 1)
		a, b := list[i], list[i+1]
		if b.Prev != id(a) && height(a) != height(b) {
			list[i], list[i+1] = b, a
		}
	}
	return list
}

// TestP26_5Order: the order of blocks doesn't matter, except among those with equal work.
func TestP26_5Order(t *testing.T) {
	r := rand.New(rand.NewSource(265))
	different := 0
	for range 6 {
		source := worldOf(t, 2, texts()...)
		scripts := scriptsOf(t, texts(), 12)
		var list []api.Block
		ups := []api.Hash{source.Tip()}
		for range 24 {
			own := scripts[r.Intn(4)]
			up := ups[max(0, len(ups)-1-r.Intn(4)*r.Intn(2))]
			b := source.child(up, pay(own[r.Intn(len(own))], api.Coin))
			if r.Intn(8) == 0 {
				b.Txs[0].Out[0].Value = 60 * api.Coin
				b = proven(b)
			}
			if a := source.try(t, node.Op{Kind: node.Block, Data: block.Encode(b)}); a.Err == api.OK {
				ups = append(ups, id(b))
			}
			list = append(list, b)
		}
		heights := source.Tree()
		height := func(b api.Block) int { return heights.Height(b.Prev) + 1 }
		want := ""
		for n := range 4 {
			w := worldOf(t, 2, texts()...)
			for range 3 {
				w.do(t, node.Op{Kind: node.Take, N: 2}, api.OK)
			}
			blocks := list
			if n > 0 {
				blocks = shuffled(r, list, height)
			}
			for _, b := range blocks {
				w.try(t, node.Op{Kind: node.Block, Data: block.Encode(b)})
			}
			if n > 0 && id(blocks[3]) != id(list[3]) {
				different++
			}
			b := w.Balance()
			got := fmt.Sprint(w.Tip(), w.Coins(), b.Ready, b.Young)
			if want == "" {
				want = got
			}
			if got != want {
				t.Errorf("in another order, the wallet has\n%s\nwant\n%s", got, want)
			}
		}
	}
	if different < 5 {
		t.Errorf("only %d other orders", different)
	}
}

// TestP26_6Block: every field of a block.
func TestP26_6Block(t *testing.T) {
	w := worldOf(t, 2)
	foreign := w.Block()
	if s := foreign.Txs[0].Out[0].Script; !bytes.Equal(s, open()) {
		t.Errorf("the coinbase pays to %x", s)
	}
	w.do(t, node.Op{Kind: node.Desc, Text: texts()[2]}, api.OK)
	first := w.child(w.Tip(), pay(open(), api.Coin, api.Coin))
	w.receive(t, first, api.OK)
	for range 20 {
		w.grow(t, 1)
		b := w.Block()
		x := w.Tree()
		height := w.Height() + 1
		coinbase := api.Tx{Version: 1, In: []api.TxIn{{Prev: api.OutPoint{Index: 1<<32 - 1}, Script: []byte{2, byte(height), 0}}}, Out: pay(w.Scripts()[0], block.Subsidy(height))}
		if b.Version != 1 || b.Prev != w.Tip() || b.Bits != x.Expected(w.Tip()) || b.Time != x.Median(w.Tip())+600 || len(b.Txs) != 1 || !tx.Same(b.Txs[0], coinbase) || b.Merkle != block.Root(b) {
			t.Errorf("Block = %v", b)
		}
		h := b.Header
		for h.Nonce = 0; !block.Proved(h); h.Nonce++ {
		}
		if h != b.Header {
			t.Errorf("the Nonce %d; want %d", b.Nonce, h.Nonce)
		}
	}
	fees := []int64{20000, 30000}
	for n, fee := range fees {
		x := spending(pay(open(), api.Coin-fee), made(first.Txs[0], uint32(n)))
		w.do(t, node.Op{Kind: node.Tx, Data: tx.Encode(x, true)}, api.OK)
	}
	b := w.Block()
	if len(b.Txs) != 3 || b.Txs[0].Out[0].Value != 50*api.Coin+50000 || !tx.Same(b.Txs[1], w.Waits()[0].Tx) || !tx.Same(b.Txs[2], w.Waits()[1].Tx) {
		t.Errorf("Block = %v", b)
	}
	w.receive(t, b, api.OK)
	if len(w.Waits()) != 0 {
		t.Errorf("%d wait", len(w.Waits()))
	}
}

// TestP26_6Height: the coinbase tells its height, and has what is new at that.
func TestP26_6Height(t *testing.T) {
	t.Parallel()
	w := &world{disk: disk.New(20000)}
	w.Node, _ = node.Open(w.disk, 1)
	for height := 1; height < 310; height++ {
		x := w.Block().Txs[0]
		if in := x.In[0].Script; !bytes.Equal(in, []byte{2, byte(height % 256), byte(height / 256)}) || x.Out[0].Value != 50*api.Coin>>(height/150) {
			t.Errorf("at %d: the Script %x, the value %d", height, in, x.Out[0].Value)
		}
		slow := w.child(w.Tip(), pay(open(), 1))
		slow.Time += 9000
		if a := w.Do(node.Op{Kind: node.Block, Data: block.Encode(proven(slow))}); a.Err != api.OK {
			t.Fatalf("at %d: error %d", height, a.Err)
		}
	}
}

// TestP26_6Nonce: if no Nonce below 100000 proves a block, it has that one.
func TestP26_6Nonce(t *testing.T) {
	t.Parallel()
	n, _ := node.Open(disk.New(2000), 1)
	for n.Height() < 300 {
		b := n.Block()
		if block.Proved(b.Header) {
			if a := n.Do(node.Op{Kind: node.Block, Data: block.Encode(b)}); a.Err != api.OK || a.N != 1 {
				t.Fatalf("height %d: error %d", n.Height(), a.Err)
			}
			continue
		}
		if b.Nonce != 100000 || n.Do(node.Op{Kind: node.Block, Data: block.Encode(b)}).Err != api.ErrWork {
			t.Errorf("the Nonce %d", b.Nonce)
		}
		for h := b.Header; h.Nonce > 0; {
			h.Nonce--
			if block.Proved(h) {
				t.Fatalf("the Nonce %d proves it", h.Nonce)
			}
		}
		return
	}
	t.Errorf("all blocks are proved")
}
