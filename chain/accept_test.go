package chain_test

import (
	"math"
	"math/rand"
	"slices"
	"testing"

	"strongbox/api"
	"strongbox/block"
	"strongbox/chain"
	"strongbox/tx"
)

func ids(list []api.Block) []api.Hash {
	var all []api.Hash
	for _, b := range list {
		all = append(all, idOf(b))
	}
	return all
}

// branch receives blocks beside the best way, or upon it, and returns them.
func (p *pair) branch(t *testing.T, what string, up api.Hash, n int) []api.Block {
	t.Helper()
	var list []api.Block
	for range n {
		b := p.child(up)
		p.receive(t, what, b, api.OK)
		list = append(list, b)
		up = idOf(b)
	}
	return list
}

// TestP17_1Example is the chapter's example.
func TestP17_1Example(t *testing.T) {
	p := newPair()
	a, b := p.child(p.Tip()), p.child(p.Tip())
	x := p.receive(t, "the first child", a, api.OK)
	if len(x.Off) != 0 || !slices.Equal(ids(x.On), ids([]api.Block{a})) {
		t.Errorf("%d off, %d on", len(x.Off), len(x.On))
	}
	x = p.receive(t, "the second child", b, api.OK)
	if len(x.Off) != 0 || len(x.On) != 0 || p.Tip() != idOf(a) {
		t.Errorf("%d off, %d on", len(x.Off), len(x.On))
	}
	d := p.child(idOf(b))
	x = p.receive(t, "a grandchild", d, api.OK)
	if !slices.Equal(ids(x.Off), ids([]api.Block{a})) || !slices.Equal(ids(x.On), ids([]api.Block{b, d})) || p.Tip() != idOf(d) || p.Height() != 2 {
		t.Errorf("%d off, %d on", len(x.Off), len(x.On))
	}
}

// TestP17_1Change: downwards what was disconnected, upwards what was connected.
func TestP17_1Change(t *testing.T) {
	p := newPair()
	p.grow(t, 2)
	fork := p.Tip()
	old := p.branch(t, "the former branch", fork, 3)
	branch := p.branch(t, "the latter branch", fork, 3)
	last := p.child(idOf(branch[2]))
	x := p.receive(t, "the fourth one", last, api.OK)
	slices.Reverse(old)
	if !slices.Equal(ids(x.Off), ids(old)) || !slices.Equal(ids(x.On), ids(append(branch, last))) {
		t.Errorf("%x off, %x on", ids(x.Off), ids(x.On))
	}
	x = p.receive(t, "back, no", p.child(idOf(old[0])), api.OK)
	if len(x.Off)+len(x.On) != 0 {
		t.Errorf("%x off, %x on", ids(x.Off), ids(x.On))
	}
}

// Errors that a block can have at once, in the order in which Accept tells them.
const (
	badWork = 1 << iota
	badForm
	badRoot
	badTx
	badTwice
	badParent
	badBits
	badTime
	badSpent
	allBad
)

// TestP17_1Order: block.Check comes first, then Add of the tree, then Connect.
func TestP17_1Order(t *testing.T) {
	p := newPair()
	p.grow(t, 12)
	first, _ := p.At(1)
	good := pay(made(first.Txs[0], 0), subsidy)
	for bad := range allBad {
		b := p.child(p.Tip(), good)
		want := api.OK
		if bad&badSpent != 0 {
			b.Txs[1], want = pay(api.OutPoint{Hash: api.Hash{1}}, 0), api.ErrSpent
		}
		if bad&badTime != 0 {
			b.Time, want = p.Tree().Median(p.Tip()), api.ErrEarly
		}
		if bad&badBits != 0 {
			b.Bits, want = 0x207ffffe, api.ErrWork
		}
		if bad&badParent != 0 {
			b.Prev, want = api.Hash{9}, api.ErrNone
		}
		if bad&badTwice != 0 {
			b.Txs, want = append(b.Txs, b.Txs[1]), api.ErrClash
		}
		if bad&badTx != 0 {
			b.Txs[1].Out = outsOf(-1)
			if bad&badTwice != 0 {
				b.Txs[2] = b.Txs[1]
			}
			want = api.ErrRange
		}
		b = proven(b)
		if bad&badRoot != 0 {
			b.Merkle[5]++
			want = api.ErrSum
		}
		if bad&badForm != 0 {
			b.Txs, want = b.Txs[1:], api.ErrForm
		}
		for block.Proved(b.Header) == (bad&badWork != 0) {
			b.Nonce++
		}
		if bad&badWork != 0 {
			want = api.ErrWork
		}
		q := &pair{Chain: p.Clone(), plain: p.plain.clone(), marks: p.marks}
		q.receive(t, "a block with errors", b, want)
		if there := want == api.OK || bad == badSpent; q.Has(idOf(b)) != there {
			t.Errorf("errors %b: Has = %v", bad, !there)
		}
	}
}

func (p *plainChain) clone() *plainChain {
	return &plainChain{heads: p.heads.Clone(), list: slices.Clone(p.list), ids: slices.Clone(p.ids), txs: slices.Clone(p.txs), sets: slices.Clone(p.sets), errs: slices.Clone(p.errs), banned: slices.Clone(p.banned)}
}

func TestP17_1There(t *testing.T) {
	p := newPair()
	p.grow(t, 3)
	p.branch(t, "a branch", chain.New().Tip(), 2)
	wrong := p.childOf(p.Tip(), p.coinbase(subsidy+1))
	p.receive(t, "too much", wrong, api.ErrRange)
	for _, b := range p.plain.list[1:] {
		p.receive(t, "once more", b, api.ErrThere)
	}
	g := chain.Genesis()
	want := api.ErrThere
	if !block.Proved(g.Header) {
		want = api.ErrWork
	}
	p.receive(t, "the first block", g, want)
}

// TestP17_1Mutated: a block whose last transaction is repeated has the same Id, but isn't kept in place of the right one.
func TestP17_1Mutated(t *testing.T) {
	p := newPair()
	p.grow(t, 12)
	var more []api.Tx
	for h := range 2 {
		b, _ := p.At(h + 1)
		more = append(more, pay(made(b.Txs[0], 0), subsidy))
	}
	right := p.child(p.Tip(), more...)
	wrong := right
	wrong.Txs = append(slices.Clone(right.Txs), right.Txs[2])
	if block.Root(wrong) != right.Merkle {
		t.Fatalf("the roots differ")
	}
	p.receive(t, "a transaction twice", wrong, api.ErrClash)
	if p.Has(idOf(right)) {
		t.Errorf("what Check refuses is there")
	}
	p.receive(t, "the right one", right, api.OK)
}

// TestP17_1Connect: the errors of layer 16, and nothing but the block remains of them.
func TestP17_1Connect(t *testing.T) {
	p := newPair()
	p.grow(t, 12)
	first, _ := p.At(1)
	last, _ := p.At(12)
	at := made(first.Txs[0], 0)
	locked := pay(at, subsidy)
	locked.Lock, locked.In[0].Seq = 14, 0
	closed := pay(at, subsidy)
	closed.In[0].Script = []byte{0x51}
	for _, c := range []struct {
		what string
		b    api.Block
		err  api.Errno
	}{
		{"a coinbase that is there", p.childOf(p.Tip(), last.Txs[0]), api.ErrThere},
		{"no such coin", p.child(p.Tip(), pay(made(first.Txs[0], 1), 1)), api.ErrSpent},
		{"a coin twice", p.child(p.Tip(), pay(at, subsidy), pay(at, subsidy-1)), api.ErrSpent},
		{"what comes later", p.child(p.Tip(), pay(made(pay(at, subsidy), 0), 1), pay(at, subsidy)), api.ErrSpent},
		{"a young coin", p.child(p.Tip(), pay(made(last.Txs[0], 0), 1)), api.ErrEarly},
		{"a Lock", p.child(p.Tip(), locked), api.ErrEarly},
		{"more than there is", p.child(p.Tip(), pay(at, subsidy+1)), api.ErrRange},
		{"more than the subsidy", p.childOf(p.Tip(), p.coinbase(subsidy, 1)), api.ErrRange},
		{"more than subsidy and fees", p.childOf(p.Tip(), p.coinbase(subsidy, 8), pay(at, subsidy-7)), api.ErrRange},
		{"a script that fails", p.child(p.Tip(), closed), api.ErrScript},
		{"a coin, and what comes of it", p.child(p.Tip(), pay(at, 7), pay(made(pay(at, 7), 0), 1)), api.OK},
	} {
		q := &pair{Chain: p.Clone(), plain: p.plain.clone(), marks: 500}
		before := q.Coins()
		x := q.receive(t, c.what, c.b, c.err)
		if c.err != api.OK && (q.Tip() != p.Tip() || !slices.EqualFunc(q.Coins(), before, sameEntry) || len(x.Off)+len(x.On) != 0) {
			t.Errorf("%s: the chain changed", c.what)
		}
		if !q.Has(idOf(c.b)) || q.Tree().Banned(idOf(c.b)) != (c.err != api.OK) {
			t.Errorf("%s: Has = %v, Banned = %v", c.what, q.Has(idOf(c.b)), q.Tree().Banned(idOf(c.b)))
		}
		if c.err != api.OK {
			q.receive(t, "behind "+c.what, q.child(idOf(c.b)), api.ErrState)
			q.grow(t, 2)
		}
	}
}

// TestP17_1Time: a block is connected with its own height, and with the median of its parent.
func TestP17_1Time(t *testing.T) {
	p := newPair()
	p.grow(t, 12)
	first, _ := p.At(1)
	median := p.Tree().Median(p.Tip())
	for _, c := range []struct {
		lock uint32
		err  api.Errno
	}{{12, api.OK}, {13, api.ErrEarly}, {median - 1, api.OK}, {median, api.ErrEarly}, {median + 1, api.ErrEarly}} {
		x := pay(made(first.Txs[0], 0), subsidy)
		x.Lock, x.In[0].Seq = c.lock, 0
		q := &pair{Chain: p.Clone(), plain: p.plain.clone(), marks: p.marks}
		q.receive(t, "a Lock", q.child(q.Tip(), x), c.err)
	}
}

// TestP17_1Subsidy: from the height 150 on half as much.
func TestP17_1Subsidy(t *testing.T) {
	c := chain.New()
	for h := range 149 {
		if _, err := c.Accept(upon(c, h, subsidy)); err != api.OK {
			t.Fatalf("height %d: error %d", h+1, err)
		}
	}
	if _, err := c.Accept(upon(c, 500, subsidy)); err != api.ErrRange {
		t.Errorf("50 coins at the height 150: error %d", err)
	}
	if _, err := c.Accept(upon(c, 501, subsidy/2)); err != api.OK || c.Height() != 150 {
		t.Errorf("25 coins at the height 150: error %d", err)
	}
}

// upon returns a block that could follow the best one of a chain.
func upon(c *chain.Chain, mark int, values ...int64) api.Block {
	x := c.Tree()
	h := api.Header{Prev: c.Tip(), Time: x.Median(c.Tip()) + 1500, Bits: x.Expected(c.Tip())}
	return proven(api.Block{Header: h, Txs: []api.Tx{coinbase(mark, values...)}})
}

// TestP17_2Banned: a branch with a wrong block in it is tried, up to that block, and left again.
func TestP17_2Banned(t *testing.T) {
	p := newPair()
	p.grow(t, 3)
	fork := p.Tip()
	best := p.branch(t, "the best branch", fork, 4)
	good := p.branch(t, "beside", fork, 2)
	wrong := p.childOf(idOf(good[1]), p.coinbase(subsidy+1))
	p.receive(t, "a wrong one, untried", wrong, api.OK)
	behind := p.branch(t, "behind it, untried", idOf(wrong), 1)
	beside := p.branch(t, "behind it too, untried", idOf(wrong), 1)
	if p.Tree().Banned(idOf(wrong)) {
		t.Errorf("what wasn't tried is banned")
	}
	x := p.receive(t, "the one that would be the best", p.child(idOf(behind[0])), api.ErrState)
	if p.Tip() != idOf(best[3]) || len(x.Off)+len(x.On) != 0 {
		t.Errorf("the chain is elsewhere")
	}
	for _, b := range slices.Concat(best, good) {
		if p.Tree().Banned(idOf(b)) {
			t.Errorf("a right block is banned")
		}
	}
	for _, b := range slices.Concat([]api.Block{wrong}, behind, beside) {
		if !p.Tree().Banned(idOf(b)) {
			t.Errorf("a wrong block isn't banned")
		}
		p.receive(t, "added after it was banned", p.child(idOf(b)), api.ErrState)
	}
	p.branch(t, "the good part of it", idOf(good[1]), 3)
	if p.Height() != 8 {
		t.Errorf("the height %d", p.Height())
	}
}

// TestP17_2Own: of a block that is wrong itself the error is told, on a branch too.
func TestP17_2Own(t *testing.T) {
	p := newPair()
	fork := p.Tip()
	p.grow(t, 3)
	side := p.branch(t, "beside", fork, 3)
	wrong := p.child(idOf(side[2]), pay(api.OutPoint{Hash: api.Hash{3}}, 1))
	p.receive(t, "a wrong one", wrong, api.ErrSpent)
	p.receive(t, "a right one", p.child(idOf(side[2])), api.OK)
	if p.Height() != 4 {
		t.Errorf("the height %d", p.Height())
	}
}

// TestP17_2Work: fewer blocks with more work are better than more with less.
func TestP17_2Work(t *testing.T) {
	p := newPair()
	p.grow(t, 7)
	fork := p.Tip()
	p.branch(t, "slow", fork, 4)
	fast := newPair()
	up := fast.Tip()
	for range 7 {
		b := fast.childAfter(up, 1, fast.coinbase(subsidy))
		fast.receive(t, "fast", b, api.OK)
		up = idOf(b)
	}
	for _, b := range fast.plain.list[1:] {
		p.receive(t, "fast, beside", b, api.OK)
	}
	one := p.childAfter(up, 1, p.coinbase(subsidy))
	if x := p.receive(t, "four times the work", one, api.OK); len(x.On) != 0 {
		t.Errorf("11 times the work of a block is as good as 12 times")
	}
	two := p.childAfter(idOf(one), 1, p.coinbase(subsidy))
	p.receive(t, "eight times the work", two, api.OK)
	if p.Height() != 9 || p.Tip() != idOf(two) {
		t.Errorf("the height %d; want 9", p.Height())
	}
}

// candidates returns transactions that spend a coin of what a way leaves, most of them in a right way.
func candidates(r *rand.Rand, p *plainChain, up int) []api.Tx {
	if p.sets[up] == nil || p.sets[up].Count() == 0 {
		return nil
	}
	list := p.sets[up].List()
	height := len(p.way(up))
	var txs []api.Tx
	for range r.Intn(3) {
		e := list[r.Intn(len(list))]
		if e.Coin.Fresh && height-e.Coin.Height < 10 && r.Intn(10) > 0 {
			continue
		}
		values := []int64{e.Coin.Out.Value / 2, e.Coin.Out.Value / 3}
		if r.Intn(12) == 0 {
			values[0] *= 3
		}
		x := pay(e.Place, values...)
		txs = append(txs, x)
		if r.Intn(3) == 0 {
			txs = append(txs, pay(made(x, uint32(1+r.Intn(10)/9)), values[1]/2))
		}
	}
	return txs
}

// randomBlock returns a block behind one of those that were received, mostly behind a late one.
func randomBlock(r *rand.Rand, p *pair) api.Block {
	up := len(p.plain.list) - 1 - r.Intn(6)
	for r.Intn(10) > 0 && p.plain.banned[up] {
		up = len(p.plain.list) - 1 - r.Intn(12)
	}
	first := p.coinbase(subsidy/5, subsidy/5, subsidy/5)
	switch r.Intn(12) {
	case 0:
		first = p.coinbase(subsidy + 1)
	case 1:
		first = coinbase(1<<20+r.Intn(2), subsidy)
	}
	late := []uint32{1, 400, 700, 3000}[r.Intn(4)]
	return p.childAfter(idOf(p.plain.list[up]), late, first, candidates(r, p.plain, up)...)
}

// TestP17_2Random holds the chain against the plain one, whatever comes.
func TestP17_2Random(t *testing.T) {
	r := rand.New(rand.NewSource(17))
	off, wrong := 0, map[api.Errno]int{}
	for range 60 {
		p := newPair()
		p.grow(t, 11)
		for range 40 {
			b := randomBlock(r, p)
			x, want := p.plain.clone().accept(b)
			off += len(x.Off)
			wrong[want]++
			p.receive(t, "a random block", b, want)
		}
	}
	if off < 50 || len(wrong) < 6 {
		t.Errorf("too little happened: %d blocks off, the errors %v", off, wrong)
	}
}

// shuffled returns blocks in another order: parents first, and those with equal work in the same order.
func shuffled(r *rand.Rand, p *plainChain) []api.Block {
	var order []api.Block
	left := slices.Clone(p.list[1:])
	there := map[api.Hash]bool{idOf(p.list[0]): true}
	for len(left) > 0 {
		i := r.Intn(len(left))
		free := there[left[i].Prev]
		for _, b := range left[:i] {
			free = free && p.heads.Work(idOf(b)) != p.heads.Work(idOf(left[i]))
		}
		if free {
			there[idOf(left[i])] = true
			order = append(order, left[i])
			left = slices.Delete(left, i, i+1)
		}
	}
	return order
}

// TestP17_3Order: the same blocks in another order lead to the same block and the same coins.
func TestP17_3Order(t *testing.T) {
	r := rand.New(rand.NewSource(1703))
	moved := 0
	for range 15 {
		p := newPair()
		p.grow(t, 11)
		for range 30 {
			p.plain.accept(randomBlock(r, p))
		}
		for range 5 {
			c := chain.New()
			order := shuffled(r, p.plain)
			for _, b := range order {
				c.Accept(b)
			}
			if !slices.Equal(ids(order), ids(p.plain.list[1:])) {
				moved++
			}
			best := p.plain.best()
			if c.Tip() != idOf(p.plain.list[best]) || !slices.EqualFunc(c.Coins(), p.plain.sets[best].List(), sameEntry) {
				t.Errorf("another order leads elsewhere")
			}
		}
	}
	if moved < 50 {
		t.Errorf("only %d orders were others", moved)
	}
}

// TestP17_2BackAndForth: what two branches leave is the same each time the chain is there.
func TestP17_2BackAndForth(t *testing.T) {
	p := newPair()
	p.receive(t, "outputs", p.childOf(p.Tip(), p.coinbase(100, 200, 300)), api.OK)
	base, _ := p.At(1)
	p.grow(t, 10)
	tips := []api.Hash{p.Tip(), p.Tip()}
	at := []api.OutPoint{made(base.Txs[0], 0), made(base.Txs[0], 1)}
	for i := range 12 {
		side := i % 2
		for range min(i+1, 2) {
			x := pay(at[side], 90-int64(i))
			b := p.child(tips[side], x)
			p.receive(t, "two branches in turn", b, api.OK)
			tips[side], at[side] = idOf(b), made(x, 0)
		}
		if p.Tip() != tips[side] {
			t.Fatalf("the chain isn't on the longer branch")
		}
	}
	if _, ok := p.Coin(api.OutPoint{Hash: tx.Id(base.Txs[0]), Index: 2}); !ok {
		t.Errorf("what nobody spent is gone")
	}
	if _, ok := p.Spender(api.OutPoint{Index: math.MaxUint32}); !ok {
		t.Errorf("no coinbase")
	}
}
