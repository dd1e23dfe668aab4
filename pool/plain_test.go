package pool_test

import (
	"math"
	"math/big"
	"slices"
	"testing"

	"strongbox/api"
	"strongbox/block"
	"strongbox/chain"
	"strongbox/coins"
	"strongbox/pool"
	"strongbox/tx"
)

// plainPool is a pool as the document says it.
type plainPool struct {
	most int
	list []pool.Entry
}

// behind returns all that spend an output of this transaction, directly or through others, in any order.
func (p *plainPool) behind(id api.Hash) []api.Hash {
	var ids []api.Hash
	for _, e := range p.list {
		for _, in := range e.Tx.In {
			if in.Prev.Hash == id && !slices.Contains(ids, e.Id) {
				ids = append(append(ids, e.Id), p.behind(e.Id)...)
			}
		}
	}
	return ids
}

func (p *plainPool) remove(ids ...api.Hash) {
	p.list = slices.DeleteFunc(slices.Clone(p.list), func(e pool.Entry) bool { return slices.Contains(ids, e.Id) })
}

func (p *plainPool) size() int {
	sum := 0
	for _, e := range p.list {
		sum += e.Size
	}
	return sum
}

func rate(e pool.Entry) *big.Rat { return big.NewRat(e.Fee, int64(e.Size)) }

func spendsSame(a, b api.Tx) bool {
	return slices.ContainsFunc(a.In, func(in api.TxIn) bool {
		return slices.ContainsFunc(b.In, func(other api.TxIn) bool { return in.Prev == other.Prev })
	})
}

// fits asks layer 16 with all coins of the chain, and all that waiting ones make.
func (p *plainPool) fits(c *chain.Chain, t api.Tx) (int64, api.Errno) {
	s := coins.New()
	for _, e := range p.list {
		for i, o := range e.Tx.Out {
			s.Put(coins.Entry{Place: api.OutPoint{Hash: e.Id, Index: uint32(i)}, Coin: coins.Coin{Out: o, Height: c.Height() + 1}})
		}
	}
	s.Put(c.Coins()...)
	return s.Fits(t, c.Height()+1, c.Tree().Median(c.Tip()))
}

// clashes: does a transaction pay too little to replace these, of which some are rivals?
func clashes(e pool.Entry, inWay, rivals []pool.Entry) bool {
	least := big.NewInt(int64(e.Size))
	for _, w := range inWay {
		least.Add(least, big.NewInt(w.Fee))
	}
	for _, w := range rivals {
		if rate(w).Cmp(rate(e)) >= 0 {
			return true
		}
	}
	return len(rivals) > 0 && (big.NewInt(e.Fee).Cmp(least) < 0 || len(inWay) > 50)
}

func (p *plainPool) add(c *chain.Chain, t api.Tx) api.Errno {
	e := pool.Entry{Id: tx.Id(t), Tx: tx.Clone(t), Size: tx.Virtual(t)}
	if err := tx.Check(t); err != api.OK {
		return err
	} else if tx.Coinbase(t) {
		return api.ErrForm
	}
	var rivals, inWay []pool.Entry
	var gone []api.Hash
	for _, w := range p.list {
		if w.Id == e.Id {
			return api.ErrThere
		} else if spendsSame(w.Tx, t) {
			rivals = append(rivals, w)
			gone = append(append(gone, w.Id), p.behind(w.Id)...)
		}
	}
	for _, w := range p.list {
		if slices.Contains(gone, w.Id) {
			inWay = append(inWay, w)
		}
	}
	q := &plainPool{p.most, p.list}
	q.remove(gone...)
	var err api.Errno
	if e.Fee, err = q.fits(c, t); err != api.OK {
		return err
	} else if e.Fee < int64(e.Size) {
		return api.ErrFee
	} else if clashes(e, inWay, rivals) {
		return api.ErrClash
	}
	q.list = append(q.list, e)
	for q.size() > q.most {
		worst := len(q.list) - 1
		for i := worst; i >= 0; i-- {
			if rate(q.list[i]).Cmp(rate(q.list[worst])) < 0 {
				worst = i
			}
		}
		q.remove(append(q.behind(q.list[worst].Id), q.list[worst].Id)...)
	}
	if len(q.list) == 0 || q.list[len(q.list)-1].Id != e.Id {
		return api.ErrFull
	}
	p.list = q.list
	return api.OK
}

func (p *plainPool) refresh(c *chain.Chain, more ...api.Tx) {
	was := p.list
	p.list = nil
	for _, t := range more {
		p.add(c, t)
	}
	for _, e := range was {
		p.add(c, e.Tx)
	}
}

func (p *plainPool) ids() []api.Hash {
	var ids []api.Hash
	for _, e := range p.list {
		ids = append(ids, e.Id)
	}
	return ids
}

func sameEntry(a, b pool.Entry) bool {
	return a.Id == b.Id && tx.Same(a.Tx, b.Tx) && a.Fee == b.Fee && a.Size == b.Size
}

// expectPool holds a pool against a plain one, and asks both for all that waits and for these transactions.
func expectPool(t *testing.T, what string, p *pool.Pool, q *plainPool, asked ...api.Tx) {
	t.Helper()
	if !slices.EqualFunc(p.List(), q.list, sameEntry) || p.Size() != q.size() {
		t.Fatalf("%s: %d entries of %d bytes; want %d of %d", what, len(p.List()), p.Size(), len(q.list), q.size())
	}
	for _, e := range q.list {
		asked = append(asked, e.Tx)
	}
	for _, x := range asked {
		expectTx(t, what, p, q, x)
	}
}

func expectTx(t *testing.T, what string, p *pool.Pool, q *plainPool, x api.Tx) {
	t.Helper()
	id := tx.Id(x)
	want := pool.Entry{}
	i := slices.Index(q.ids(), id)
	if i >= 0 {
		want = q.list[i]
	}
	if got, ok := p.Get(id); ok != (i >= 0) || !sameEntry(got, want) {
		t.Errorf("%s: Get = %v, %v; want %v", what, got, ok, want)
	}
	behind := q.behind(id)
	rest := slices.DeleteFunc(q.ids(), func(id api.Hash) bool { return !slices.Contains(behind, id) })
	if got := p.Behind(id); !slices.Equal(got, rest) {
		t.Errorf("%s: Behind = %x; want %x", what, got, rest)
	}
	for _, in := range x.In {
		var spender api.Hash
		for _, e := range q.list {
			if spendsSame(e.Tx, api.Tx{In: []api.TxIn{in}}) {
				spender = e.Id
			}
		}
		if got, ok := p.Spender(in.Prev); got != spender || ok != (spender != api.Hash{}) {
			t.Errorf("%s: Spender of %v = %x, %v; want %x", what, in.Prev, got, ok, spender)
		}
	}
}

// expectSound holds a pool against P18.2.
func expectSound(t *testing.T, p *pool.Pool, c *chain.Chain, most int) {
	t.Helper()
	spent := map[api.OutPoint]bool{}
	there := map[api.OutPoint]bool{}
	for _, e := range p.List() {
		for _, in := range e.Tx.In {
			_, ok := c.Coin(in.Prev)
			if spent[in.Prev] || !ok && !there[in.Prev] {
				t.Errorf("%v is spent twice, or isn't there", in.Prev)
			}
			spent[in.Prev] = true
		}
		for i := range e.Tx.Out {
			there[api.OutPoint{Hash: e.Id, Index: uint32(i)}] = true
		}
	}
	if p.Size() > most {
		t.Errorf("%d bytes; at most %d may wait", p.Size(), most)
	}
}

// pair is a pool and a plain one to which the same happens.
type pair struct {
	*pool.Pool
	plain *plainPool
}

func newPair(most int) *pair { return &pair{pool.New(most), &plainPool{most: max(most, 0)}} }

// take adds a transaction to both, and holds the result against an error.
func (p *pair) take(t *testing.T, what string, c *chain.Chain, x api.Tx, want api.Errno) {
	t.Helper()
	was := p.Clone()
	err := p.plain.add(c, x)
	if got := p.Add(c, x); got != want || err != want {
		t.Fatalf("%s: Add = %d; want %d (the plain pool: %d)", what, got, want, err)
	}
	expectPool(t, what, p.Pool, p.plain, x)
	if want != api.OK && !p.Same(was) {
		t.Errorf("%s: the pool changed", what)
	}
}

func (p *pair) refresh(t *testing.T, what string, c *chain.Chain, more ...api.Tx) {
	t.Helper()
	p.plain.refresh(c, more...)
	p.Refresh(c, more...)
	expectPool(t, what, p.Pool, p.plain, more...)
	expectSound(t, p.Pool, c, p.plain.most)
}

// open returns outputs that everybody may spend.
func open(values ...int64) []api.TxOut {
	var list []api.TxOut
	for _, v := range values {
		list = append(list, api.TxOut{Value: v, Script: []byte{0x51}})
	}
	return list
}

func made(t api.Tx, index uint32) api.OutPoint { return api.OutPoint{Hash: tx.Id(t), Index: index} }

// spending returns a transaction that spends these places.
func spending(outs []api.TxOut, places ...api.OutPoint) api.Tx {
	t := api.Tx{Version: 1, Out: outs}
	for _, p := range places {
		t.In = append(t.In, api.TxIn{Prev: p, Seq: math.MaxUint32})
	}
	return t
}

// follow lets a chain receive a block behind one of its blocks.
func follow(t *testing.T, c *chain.Chain, up api.Hash, mark int, first []api.TxOut, more ...api.Tx) api.Block {
	t.Helper()
	x := c.Tree()
	coinbase := api.Tx{In: []api.TxIn{{Prev: api.OutPoint{Index: math.MaxUint32}, Script: []byte{2, byte(mark), byte(mark >> 8)}}}, Out: first}
	b := api.Block{Header: api.Header{Prev: up, Time: x.Median(up) + 1500, Bits: x.Expected(up)}, Txs: append([]api.Tx{coinbase}, more...)}
	b.Merkle = block.Root(b)
	for !block.Proved(b.Header) {
		b.Nonce++
	}
	if _, err := c.Accept(b); err != api.OK {
		t.Fatalf("a block isn't accepted: error %d", err)
	}
	return b
}

// rich returns a chain of which these outputs, each worth a million, can be spent.
func rich(t *testing.T) (*chain.Chain, []api.OutPoint) {
	t.Helper()
	c := chain.New()
	var places []api.OutPoint
	for mark := range 13 {
		var outs []api.TxOut
		for range 20 {
			outs = append(outs, open(1000000)...)
		}
		b := follow(t, c, c.Tip(), mark, outs)
		for i := range outs {
			places = append(places, made(b.Txs[0], uint32(i)))
		}
	}
	return c, places[:60]
}
