package chain_test

import (
	"bytes"
	"math"
	"slices"
	"testing"

	"strongbox/api"
	"strongbox/block"
	"strongbox/chain"
	"strongbox/coins"
	"strongbox/hash"
	"strongbox/tx"
)

func TestP17_1Genesis(t *testing.T) {
	g := chain.Genesis()
	if len(g.Txs) != 1 || !tx.Coinbase(g.Txs[0]) {
		t.Fatalf("the transactions %v", g.Txs)
	}
	wire := "\x01\x00\x00\x00\x01" + string(make([]byte, 32)) + "\xff\xff\xff\xff\x0a\x09strongbox\xff\xff\xff\xff\x01" + string(make([]byte, 8)) + "\x01\x6a" + "\x00\x00\x00\x00"
	if got := tx.Encode(g.Txs[0], true); string(got) != wire {
		t.Errorf("the coinbase %x; want %x", got, wire)
	}
	want := api.Header{Version: 1, Merkle: hash.Double([]byte(wire)), Time: 1500000000, Bits: 0x207fffff}
	if g.Header != want {
		t.Errorf("the header %v; want %v", g.Header, want)
	}
	if g.Merkle != block.Root(g) {
		t.Errorf("Merkle isn't Root")
	}
}

func TestP17_1New(t *testing.T) {
	c := chain.New()
	g := chain.Genesis()
	expectChain(t, "New", c, newPlain())
	if c.Tip() != idOf(g) || c.Height() != 0 || len(c.Coins()) != 0 || c.Tree().Count() != 1 {
		t.Errorf("the tip %x at %d, %d coins", c.Tip(), c.Height(), len(c.Coins()))
	}
	if x, ok := c.Coin(made(g.Txs[0], 0)); ok || x.Height != 0 || x.Fresh || x.Out.Value != 0 || x.Out.Script != nil {
		t.Errorf("the first block has a coin: %v, %v", x, ok)
	}
	if h, ok := c.Where(tx.Id(g.Txs[0])); h != 0 || !ok {
		t.Errorf("Where of the first block's transaction = %d, %v", h, ok)
	}
	if id, ok := c.Spender(api.OutPoint{Index: math.MaxUint32}); id != tx.Id(g.Txs[0]) || !ok {
		t.Errorf("Spender of the empty place = %x, %v", id, ok)
	}
	if _, err := c.Fits(pay(made(g.Txs[0], 0), 0)); err != api.ErrSpent {
		t.Errorf("Fits of a payment from the first block: error %d", err)
	}
}

// TestP17_4None asks for what isn't there.
func TestP17_4None(t *testing.T) {
	p := newPair()
	p.grow(t, 2)
	for _, id := range []api.Hash{{}, {1}, {31: 255}} {
		if b, ok := p.Block(id); ok || p.Has(id) || !sameBlock(b, api.Block{}) {
			t.Errorf("a block %x: %v", id, b)
		}
		if h, ok := p.Where(id); ok || h != 0 {
			t.Errorf("Where of %x = %d, %v", id, h, ok)
		}
		for _, at := range []api.OutPoint{{Hash: id}, {Hash: id, Index: 7}} {
			if got, ok := p.Spender(at); ok || got != (api.Hash{}) {
				t.Errorf("Spender of %v = %x, %v", at, got, ok)
			}
			if x, ok := p.Coin(at); ok || x.Height != 0 || x.Fresh || x.Out.Value != 0 || x.Out.Script != nil {
				t.Errorf("Coin of %v = %v, %v", at, x, ok)
			}
		}
	}
}

// TestP17_4Fits: a transaction is asked for the next height, and for the median of the best block.
func TestP17_4Fits(t *testing.T) {
	p := newPair()
	p.grow(t, 9)
	first, _ := p.At(1)
	x := pay(made(first.Txs[0], 0), subsidy-7)
	if fee, err := p.Fits(x); fee != 0 || err != api.ErrEarly {
		t.Errorf("Fits = %d, error %d, of a coin of the block 1 at the height 9", fee, err)
	}
	p.grow(t, 1)
	if fee, err := p.Fits(x); fee != 7 || err != api.OK {
		t.Errorf("Fits = %d, error %d, of a coin of the block 1 at the height 10", fee, err)
	}
	x.In[0].Seq = 0
	median := p.Tree().Median(p.Tip())
	for lock, want := range map[uint32]api.Errno{0: api.OK, 10: api.OK, 11: api.ErrEarly, median - 1: api.OK, median: api.ErrEarly} {
		x.Lock = lock
		if fee, err := p.Fits(x); err != want || fee != map[bool]int64{true: 7}[want == api.OK] {
			t.Errorf("Fits of the Lock %d = %d, error %d; want %d", lock, fee, err, want)
		}
	}
	expectChain(t, "after Fits", p.Chain, p.plain)
	x.Lock = 0
	p.receive(t, "the payment", p.child(p.Tip(), x), api.OK)
	if fee, err := p.Fits(x); fee != 0 || err != api.ErrSpent {
		t.Errorf("Fits = %d, error %d, of what is there already", fee, err)
	}
}

// spentTwice returns a chain on which a coinbase, and what spends its output, were there twice.
func spentTwice(t *testing.T) (p *pair, first, second, x, z api.Tx) {
	t.Helper()
	p = newPair()
	first = coinbase(1<<20, subsidy)
	p.receive(t, "a coinbase", p.childOf(p.Tip(), first), api.OK)
	p.grow(t, 9)
	second = pay(made(first, 0), subsidy)
	p.receive(t, "what spends it", p.child(p.Tip(), second), api.OK)
	if h, ok := p.Where(tx.Id(first)); h != 1 || !ok {
		t.Errorf("Where of the coinbase = %d, %v", h, ok)
	}
	p.receive(t, "the coinbase again", p.childOf(p.Tip(), first), api.OK)
	if h, ok := p.Where(tx.Id(first)); h != 12 || !ok {
		t.Errorf("Where of the coinbase = %d, %v", h, ok)
	}
	p.grow(t, 9)
	x, z = pay(made(second, 0), subsidy), pay(made(second, 0), subsidy-1)
	p.receive(t, "both again in one block", p.child(p.Tip(), x, second, z), api.OK)
	return p, first, second, x, z
}

// TestP17_4Twice: of several heights and of several spenders the last one is told.
func TestP17_4Twice(t *testing.T) {
	p, first, second, x, z := spentTwice(t)
	for i, want := range []struct {
		tx     api.Tx
		height int
	}{{first, 12}, {second, 22}, {x, 22}, {z, 22}} {
		if h, ok := p.Where(tx.Id(want.tx)); h != want.height || !ok {
			t.Errorf("Where of %d = %d, %v; want %d", i, h, ok, want.height)
		}
	}
	if id, ok := p.Spender(made(second, 0)); id != tx.Id(z) || !ok {
		t.Errorf("Spender of what was spent twice in a block = %x, %v", id, ok)
	}
	if id, ok := p.Spender(made(first, 0)); id != tx.Id(second) || !ok {
		t.Errorf("Spender of the coinbase = %x, %v", id, ok)
	}
	tip, _ := p.At(22)
	if id, ok := p.Spender(api.OutPoint{Index: math.MaxUint32}); id != tx.Id(tip.Txs[0]) || !ok {
		t.Errorf("Spender of the empty place = %x, %v", id, ok)
	}
	up, _ := p.At(20)
	p.receive(t, "beside", p.child(idOf(up)), api.OK)
	p.receive(t, "beside", p.child(idOf(p.plain.list[len(p.plain.list)-1])), api.OK)
	p.receive(t, "a better branch", p.child(idOf(p.plain.list[len(p.plain.list)-1])), api.OK)
	if h, ok := p.Where(tx.Id(second)); h != 11 || !ok {
		t.Errorf("Where after a reorganization = %d, %v", h, ok)
	}
	if id, ok := p.Spender(made(second, 0)); id != (api.Hash{}) || ok {
		t.Errorf("Spender after a reorganization = %x, %v", id, ok)
	}
}

// TestP17_4Clone: what happens to a chain doesn't reach its copies, or its tree's.
func TestP17_4Clone(t *testing.T) {
	p := newPair()
	p.grow(t, 12)
	first, _ := p.At(1)
	p.receive(t, "a payment", p.child(p.Tip(), pay(made(first.Txs[0], 0), 5)), api.OK)
	was := p.plain.clone()
	c, x := p.Clone(), p.Tree()
	x.Ban(p.Tip())
	expectChain(t, "after Ban in a copy of the tree", p.Chain, p.plain)
	up, _ := p.At(11)
	branch := []api.Block{p.child(idOf(up))}
	p.receive(t, "a branch", branch[0], api.OK)
	for range 2 {
		branch = append(branch, p.child(idOf(branch[len(branch)-1])))
		p.receive(t, "a branch", branch[len(branch)-1], api.OK)
	}
	p.receive(t, "too much", p.childOf(p.Tip(), p.coinbase(subsidy+1)), api.ErrRange)
	expectChain(t, "a copy", c, was)
	if x.Count() != 14 {
		t.Errorf("a copy of the tree grew")
	}
	d := c.Clone()
	q := &pair{Chain: d, plain: was, marks: 1000}
	q.grow(t, 3)
	expectChain(t, "what was copied", p.Chain, p.plain)
	if c.Height() != 13 || d.Height() != 16 {
		t.Errorf("the heights %d, %d", c.Height(), d.Height())
	}
	for _, b := range branch {
		if c.Has(idOf(b)) || d.Has(idOf(b)) {
			t.Errorf("a copy has a block that came later")
		}
		if _, err := c.Accept(b); err != api.OK {
			t.Errorf("a copy doesn't take a block: error %d", err)
		}
	}
	if c.Tip() != p.Tip() || !slices.EqualFunc(c.Coins(), p.Coins(), sameEntry) {
		t.Errorf("a copy that received the same is elsewhere")
	}
}

// spare returns bytes with spare capacity.
func spare(b []byte) []byte {
	return append(append(make([]byte, 0, len(b)+9), b...), "spare"...)[:len(b)]
}

// roomy returns a copy of a block, with witnesses and with spare capacity everywhere.
func roomy(b api.Block) api.Block {
	b.Txs = append(make([]api.Tx, 0, len(b.Txs)+1), b.Txs...)
	for i, t := range b.Txs {
		t.In = append(make([]api.TxIn, 0, len(t.In)+1), t.In...)
		t.Out = append(make([]api.TxOut, 0, len(t.Out)+1), t.Out...)
		for j, in := range t.In {
			t.In[j].Script = spare(in.Script)
			t.In[j].Witness = append(make([][]byte, 0, len(in.Witness)+1), in.Witness...)
			for k, w := range in.Witness {
				t.In[j].Witness[k] = spare(w)
			}
		}
		for j := range t.Out {
			t.Out[j].Script = spare(t.Out[j].Script)
		}
		b.Txs[i] = t
	}
	return b
}

// bytesOf returns all lists of bytes of a block.
func bytesOf(b api.Block) [][]byte {
	var list [][]byte
	for _, t := range b.Txs {
		for _, in := range t.In {
			list = append(append(list, in.Script), in.Witness...)
		}
		for _, o := range t.Out {
			list = append(list, o.Script)
		}
	}
	return list
}

// untouched: is a roomy block as it was, with all spare capacity?
func untouched(b, was api.Block) bool {
	for _, l := range bytesOf(b) {
		if string(l[:len(l)+5][len(l):]) != "spare" {
			return false
		}
	}
	last := b.Txs[:len(b.Txs)+1][len(b.Txs)]
	return sameBlock(b, was) && last.In == nil && last.Out == nil
}

// spoil overwrites all memory of a block.
func spoil(b api.Block) {
	for _, l := range bytesOf(b) {
		for i := range l[:cap(l)] {
			l[:cap(l)][i] ^= 0xff
		}
	}
	for _, t := range b.Txs[:cap(b.Txs)] {
		for _, in := range t.In[:cap(t.In)] {
			clear(in.Witness[:cap(in.Witness)])
		}
		clear(t.In[:cap(t.In)])
		clear(t.Out[:cap(t.Out)])
	}
	clear(b.Txs[:cap(b.Txs)])
}

// TestP17_4Memory: no block that is passed or returned shares memory with the chain, or with another one.
func TestP17_4Memory(t *testing.T) {
	p := newPair()
	p.grow(t, 12)
	start := p.Clone()
	first, _ := p.At(1)
	x := pay(made(first.Txs[0], 0), subsidy-9, 9)
	program := hash.Sum256([]byte{0x51})
	x.Out[1].Script = slices.Concat([]byte{0, 32}, program[:])
	y := pay(made(x, 1), 9)
	y.In[0].Witness = [][]byte{{0x51}}
	want := []api.Block{p.child(p.Tip(), x, y)}
	p.receive(t, "a payment", want[0], api.OK)
	p.receive(t, "no branch", p.child(want[0].Prev), api.OK)
	want = append(want, p.child(idOf(p.plain.list[14])))
	p.receive(t, "a branch", want[1], api.OK)
	c := start
	list := []api.Block{want[0], p.plain.list[14], want[1]}
	for i, b := range list {
		given := roomy(b)
		change, err := c.Accept(given)
		if err != api.OK || !untouched(given, b) {
			t.Fatalf("Accept of %d: error %d, or its argument was changed", i, err)
		}
		d := c.Clone()
		spoil(given)
		got, _ := c.Block(idOf(b))
		again, _ := d.Block(idOf(b))
		at, _ := c.At(c.Height())
		for _, b := range slices.Concat(change.Off, change.On) {
			spoil(b)
		}
		if !sameBlock(got, b) || !sameBlock(again, b) || !sameBlock(at, p.plain.list[p.plain.find(c.Tip())]) {
			t.Errorf("Accept keeps its argument, or results share memory")
		}
		spoil(got)
		spoil(at)
		for _, e := range c.Coins() {
			clear(e.Coin.Out.Script)
			coin, _ := c.Coin(e.Place)
			clear(coin.Out.Script)
		}
		if again, _ = c.Block(idOf(b)); !sameBlock(again, b) {
			t.Errorf("results share memory with the chain")
		}
	}
	expectChain(t, "after all was spoilt", c, p.plain)
}

// TestP17_4Genesis: each first block is new memory.
func TestP17_4Genesis(t *testing.T) {
	was := chain.Genesis()
	g := chain.Genesis()
	spoil(g)
	b, _ := chain.New().Block(idOf(was))
	if !sameBlock(chain.Genesis(), was) || !sameBlock(b, was) || !bytes.Equal(was.Txs[0].In[0].Script, []byte("\x09strongbox")) {
		t.Errorf("the first blocks share memory")
	}
}

// TestP17_4Coins: Coins are in ascending order of places, as in layer 16.
func TestP17_4Coins(t *testing.T) {
	p := newPair()
	p.receive(t, "three outputs", p.childOf(p.Tip(), p.coinbase(1, 2, 3)), api.OK)
	p.grow(t, 7)
	list := p.Coins()
	if len(list) != 10 || !slices.IsSortedFunc(list, func(a, b coins.Entry) int { return bytes.Compare(a.Place.Hash[:], b.Place.Hash[:]) }) {
		t.Errorf("Coins = %v", list)
	}
}
