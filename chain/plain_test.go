package chain_test

import (
	"bytes"
	"math"
	"slices"
	"testing"

	"strongbox/api"
	"strongbox/block"
	"strongbox/chain"
	"strongbox/coins"
	"strongbox/tree"
	"strongbox/tx"
)

// plainChain is a chain as P17.2 says it: all blocks in the order in which they were received, and what the way to each one leaves.
type plainChain struct {
	heads  *tree.Tree // in which nothing is banned
	list   []api.Block
	ids    []api.Hash
	txs    [][]api.Hash
	sets   []*coins.Set // nil where the way isn't valid
	errs   []api.Errno  // because of which the block itself can't be connected
	banned []bool
}

func newPlain() *plainChain {
	g := chain.Genesis()
	p := &plainChain{heads: tree.New(g.Header)}
	p.note(g, coins.New(), api.OK, false)
	return p
}

func (p *plainChain) note(b api.Block, s *coins.Set, err api.Errno, banned bool) {
	var txs []api.Hash
	for _, t := range b.Txs {
		txs = append(txs, tx.Id(t))
	}
	p.list, p.ids, p.txs = append(p.list, b), append(p.ids, idOf(b)), append(p.txs, txs)
	p.sets, p.errs, p.banned = append(p.sets, s), append(p.errs, err), append(p.banned, banned)
}

func (p *plainChain) find(id api.Hash) int { return slices.Index(p.ids, id) }

// way returns the positions of the blocks from the first one to this one.
func (p *plainChain) way(i int) []int {
	if i == 0 {
		return []int{0}
	}
	return append(p.way(p.find(p.list[i].Prev)), i)
}

func (p *plainChain) work(i int) block.Number { return p.heads.Work(p.ids[i]) }

// best returns the position of the best block.
func (p *plainChain) best() int {
	best := 0
	for i := range p.list {
		if p.sets[i] != nil && block.Compare(p.work(i), p.work(best)) > 0 {
			best = i
		}
	}
	return best
}

// receive adds a block whose header was added, and what the way to it leaves.
func (p *plainChain) receive(b api.Block) {
	up := p.find(b.Prev)
	var s *coins.Set
	err := api.ErrState
	if p.sets[up] != nil {
		s = p.sets[up].Clone()
		if _, err = s.Connect(b, len(p.way(up)), p.heads.Median(b.Prev)); err != api.OK {
			s = nil
		}
	}
	p.note(b, s, err, p.banned[up])
}

// try bans what is wrong on the way to the last block, if it would be the best one.
func (p *plainChain) try(former int) {
	last := len(p.list) - 1
	if p.banned[last] || p.sets[last] != nil || block.Compare(p.work(last), p.work(former)) <= 0 {
		return
	}
	way := p.way(last)
	wrong := slices.IndexFunc(way, func(i int) bool { return p.sets[i] == nil })
	for i := range p.list {
		p.banned[i] = p.banned[i] || slices.Contains(p.way(i), way[wrong])
	}
}

func (p *plainChain) accept(b api.Block) (chain.Change, api.Errno) {
	if err := block.Check(b); err != api.OK {
		return chain.Change{}, err
	}
	if err := p.heads.Add(b.Header); err != api.OK {
		return chain.Change{}, err
	}
	former := p.best()
	p.receive(b)
	p.try(former)
	last := len(p.list) - 1
	if p.banned[last] && p.banned[p.find(b.Prev)] {
		return chain.Change{}, api.ErrState
	} else if p.banned[last] {
		return chain.Change{}, p.errs[last]
	}
	return p.between(former, p.best()), api.OK
}

func (p *plainChain) between(former, latter int) chain.Change {
	var x chain.Change
	was, is := p.way(former), p.way(latter)
	for len(was) > 0 && len(is) > 0 && was[0] == is[0] {
		was, is = was[1:], is[1:]
	}
	for _, i := range was {
		x.Off = append([]api.Block{p.list[i]}, x.Off...)
	}
	for _, i := range is {
		x.On = append(x.On, p.list[i])
	}
	return x
}

// where and spender search the best way from its beginning, so that what is found last remains.
func (p *plainChain) where(id api.Hash) (int, bool) {
	height, ok := 0, false
	for h, i := range p.way(p.best()) {
		if slices.Contains(p.txs[i], id) {
			height, ok = h, true
		}
	}
	return height, ok
}

func (p *plainChain) spender(at api.OutPoint) (api.Hash, bool) {
	var id api.Hash
	ok := false
	for _, i := range p.way(p.best()) {
		for j, t := range p.list[i].Txs {
			for _, in := range t.In {
				if in.Prev == at {
					id, ok = p.txs[i][j], true
				}
			}
		}
	}
	return id, ok
}

func sameBlock(a, b api.Block) bool {
	return a.Header == b.Header && slices.EqualFunc(a.Txs, b.Txs, tx.Same)
}

func sameChange(a, b chain.Change) bool {
	return slices.EqualFunc(a.Off, b.Off, sameBlock) && slices.EqualFunc(a.On, b.On, sameBlock)
}

func sameEntry(a, b coins.Entry) bool {
	return a.Place == b.Place && a.Coin.Height == b.Coin.Height && a.Coin.Fresh == b.Coin.Fresh && a.Coin.Out.Value == b.Coin.Out.Value && bytes.Equal(a.Coin.Out.Script, b.Coin.Out.Script)
}

// expectChain holds a chain against a plain one.
func expectChain(t *testing.T, what string, c *chain.Chain, p *plainChain) {
	t.Helper()
	best := p.best()
	way := p.way(best)
	if c.Tip() != p.ids[best] || c.Height() != len(way)-1 {
		t.Fatalf("%s: the tip %x at %d; want %x at %d", what, c.Tip(), c.Height(), p.ids[best], len(way)-1)
	}
	expectBlocks(t, what, c, p, way)
	list := p.sets[best].List()
	if !slices.EqualFunc(c.Coins(), list, sameEntry) {
		t.Fatalf("%s: Coins = %v; want %v", what, c.Coins(), list)
	}
	for _, e := range list {
		if got, ok := c.Coin(e.Place); !ok || !sameEntry(coins.Entry{Place: e.Place, Coin: got}, e) {
			t.Errorf("%s: Coin of %v = %v, %v", what, e.Place, got, ok)
		}
	}
	expectTxs(t, what, c, p)
	expectTree(t, what, c.Tree(), p)
}

func expectBlocks(t *testing.T, what string, c *chain.Chain, p *plainChain, way []int) {
	t.Helper()
	for i, b := range p.list {
		id := p.ids[i]
		if got, ok := c.Block(id); !c.Has(id) || !ok || !sameBlock(got, b) {
			t.Errorf("%s: a block that was received isn't there", what)
		}
	}
	for h, i := range way {
		if got, ok := c.At(h); !ok || !sameBlock(got, p.list[i]) {
			t.Errorf("%s: At(%d) = %v, %v", what, h, got, ok)
		}
	}
	for _, h := range []int{-1, len(way), math.MinInt, math.MaxInt} {
		if got, ok := c.At(h); ok || !sameBlock(got, api.Block{}) {
			t.Errorf("%s: At(%d) = %v, %v", what, h, got, ok)
		}
	}
}

// expectTxs asks for all transactions that were received, and for all places that they have.
func expectTxs(t *testing.T, what string, c *chain.Chain, p *plainChain) {
	t.Helper()
	for i, b := range p.list {
		for j, x := range b.Txs {
			id := p.txs[i][j]
			h, ok := p.where(id)
			if got, is := c.Where(id); got != h || is != ok {
				t.Errorf("%s: Where = %d, %v; want %d, %v", what, got, is, h, ok)
			}
			places := []api.OutPoint{{Hash: id}, {Hash: id, Index: 1}}
			for _, in := range x.In {
				places = append(places, in.Prev)
			}
			for _, at := range places {
				id, ok := p.spender(at)
				if got, is := c.Spender(at); got != id || is != ok {
					t.Errorf("%s: Spender of %v = %x, %v; want %x, %v", what, at, got, is, id, ok)
				}
			}
		}
	}
}

func expectTree(t *testing.T, what string, x *tree.Tree, p *plainChain) {
	t.Helper()
	if x.Count() != len(p.list) {
		t.Errorf("%s: %d headers; want %d", what, x.Count(), len(p.list))
	}
	for i, b := range p.list {
		id := p.ids[i]
		if h, ok := x.Header(id); !ok || h != b.Header || x.Banned(id) != p.banned[i] {
			t.Errorf("%s: the header %v, %v, banned: %v; want %v, true, %v", what, h, ok, x.Banned(id), b.Header, p.banned[i])
		}
	}
}

// pair is a chain and a plain one that receive the same blocks.
type pair struct {
	*chain.Chain
	plain *plainChain
	marks int
}

func newPair() *pair { return &pair{Chain: chain.New(), plain: newPlain()} }

// receive accepts a block twice, and holds what happens against an error and against each other.
func (p *pair) receive(t *testing.T, what string, b api.Block, want api.Errno) chain.Change {
	t.Helper()
	x, err := p.plain.accept(b)
	got, e := p.Accept(b)
	if e != want || err != want || !sameChange(got, x) {
		t.Fatalf("%s: Accept = %d off, %d on, error %d; want %d, %d, error %d (the plain chain: %d)", what, len(got.Off), len(got.On), e, len(x.Off), len(x.On), want, err)
	}
	expectChain(t, what, p.Chain, p.plain)
	return got
}

// grow receives this many blocks upon the best one, each of which pays to everybody.
func (p *pair) grow(t *testing.T, n int) {
	t.Helper()
	for range n {
		p.receive(t, "growing", p.child(p.Tip()), api.OK)
	}
}

// child returns a block that follows one that was received, with a coinbase that no other one has, and further transactions.
func (p *pair) child(up api.Hash, more ...api.Tx) api.Block {
	return p.childOf(up, p.coinbase(subsidy), more...)
}

func (p *pair) childOf(up api.Hash, first api.Tx, more ...api.Tx) api.Block {
	return p.childAfter(up, 1500, first, more...)
}

// childAfter returns a block this long after the median of its parent. With 1500 seconds a block needs no more work than the first one, with fewer after eight blocks it does.
func (p *pair) childAfter(up api.Hash, late uint32, first api.Tx, more ...api.Tx) api.Block {
	h := api.Header{Version: 2, Prev: up, Time: p.plain.heads.Median(up) + late, Bits: p.plain.heads.Expected(up)}
	return proven(api.Block{Header: h, Txs: append([]api.Tx{first}, more...)})
}

// coinbase returns a coinbase that no other block has.
func (p *pair) coinbase(values ...int64) api.Tx {
	p.marks++
	return coinbase(p.marks, values...)
}

const subsidy = 5000000000

func coinbase(mark int, values ...int64) api.Tx {
	in := api.TxIn{Prev: api.OutPoint{Index: math.MaxUint32}, Script: []byte{3, byte(mark), byte(mark >> 8), byte(mark >> 16)}}
	return api.Tx{Version: 1, In: []api.TxIn{in}, Out: outsOf(values...)}
}

// outsOf returns outputs that everybody may spend.
func outsOf(values ...int64) []api.TxOut {
	var list []api.TxOut
	for _, v := range values {
		list = append(list, api.TxOut{Value: v, Script: []byte{0x51}})
	}
	return list
}

// pay returns a transaction that spends one place.
func pay(at api.OutPoint, values ...int64) api.Tx {
	return api.Tx{Version: 1, In: []api.TxIn{{Prev: at, Seq: math.MaxUint32}}, Out: outsOf(values...)}
}

func made(t api.Tx, index uint32) api.OutPoint { return api.OutPoint{Hash: tx.Id(t), Index: index} }

// proven returns a block with its root and with a Nonce that proves it.
func proven(b api.Block) api.Block {
	b.Merkle = block.Root(b)
	for !block.Proved(b.Header) {
		b.Nonce++
	}
	return b
}

func idOf(b api.Block) api.Hash { return block.Id(b.Header) }
