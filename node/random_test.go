package node_test

import (
	"math/rand"
	"slices"
	"testing"

	"strongbox/api"
	"strongbox/block"
	"strongbox/ledger"
	"strongbox/node"
	"strongbox/tx"
)

// chaos is a world to which anything happens.
type chaos struct {
	*world
	*rand.Rand
	blocks []api.Hash
	side   api.Hash // the last block that isn't on the way to the best one
	txs    []api.Tx
}

// operation returns any operation.
func (c *chaos) operation() node.Op {
	o := full(c.Rand, []int{1, 1, 1, 1, 1, 2, 2, 3, 4, 5, 5, 5, 6, 6, 7, 7, 8, 9, 10, c.Intn(13) - 1}[c.Intn(20)])
	switch o.Kind {
	case node.Block:
		o.Data = block.Encode(c.block())
	case node.Tx:
		o.Data = tx.Encode(c.tx(), true)
	case node.Desc:
		o.Text = texts()[c.Intn(4)]
	case node.Take:
		o.N = c.Intn(5)
	case node.Send:
		o.Order = order(10000 + c.Int63n(1<<uint(c.Intn(33))))
		o.Order.Rate += c.Int63n(5000) - 100
		o.Order.Way, o.Order.Seed, o.Order.Change = c.Intn(4), c.Uint64(), c.Intn(3)
	case node.Bump:
		o.Id = c.own(ledger.Pooled, ledger.Inactive)
		o.Rate = 900 + c.Int63n(9000)
	case node.Abandon:
		o.Id = c.own(ledger.Inactive)
	case node.Rescan:
		o.N = c.Intn(20) - 2
	case node.Lock:
		if list := c.Coins(); len(list) > 0 {
			o.Place = list[c.Intn(len(list))].Place
		}
		o.On = c.Intn(3) == 0
	case node.Label:
		if list := c.Scripts(); len(list) > 0 {
			o.Data = list[c.Intn(len(list))]
		}
	}
	if len(o.Data) > 0 && c.Intn(30) == 0 {
		o.Data[c.Intn(len(o.Data))]++
	}
	return o
}

// own returns a transaction of the wallet, mostly one in one of these states.
func (c *chaos) own(states ...int) api.Hash {
	var list, rest []api.Hash
	for _, x := range c.Own() {
		if state, _ := c.State(tx.Id(x)); slices.Contains(states, state) {
			list = append(list, tx.Id(x))
		} else {
			rest = append(rest, tx.Id(x))
		}
	}
	if len(list) == 0 || c.Intn(5) == 0 {
		list = append(rest, api.Hash{})
	}
	return list[c.Intn(len(list))]
}

// script returns one to which something is paid.
func (c *chaos) script() []byte {
	if list := c.Scripts(); len(list) > 0 && c.Intn(3) > 0 {
		return list[c.Intn(len(list))]
	}
	return open()
}

// block returns the next block, or one on a branch.
func (c *chaos) block() api.Block {
	up := c.Tip()
	if c.Tree().Height(c.side) > c.Height()-3 && c.Intn(4) > 0 {
		up = c.side
	} else if c.Intn(2) == 0 {
		return c.Block()
	} else if n := len(c.blocks); n > 0 && c.Intn(2) == 0 {
		up = c.blocks[n-1-c.Intn(min(n, 4))]
	}
	value := int64(api.Coin)
	if c.Intn(10) == 0 {
		value *= 60
	}
	outs := append(pay(c.script(), value), pay(open(), api.Coin)...)
	var more []api.Tx
	if up == c.Tip() && c.Intn(2) == 0 {
		for _, e := range c.Waits() {
			more = append(more, e.Tx)
		}
	}
	return c.child(up, outs, more...)
}

// tx returns a transaction that spends what everybody may spend, or that is known already.
func (c *chaos) tx() api.Tx {
	if len(c.txs) > 0 && c.Intn(4) == 0 {
		return c.txs[c.Intn(len(c.txs))]
	}
	x := spending(nil)
	for _, e := range c.plain.Chain.Coins() {
		if len(e.Coin.Out.Script) == 1 && len(x.In) < 2 && c.Intn(3) == 0 {
			x.In = append(x.In, api.TxIn{Prev: e.Place})
			x.Out = append(x.Out, pay(c.script(), e.Coin.Out.Value-10000-c.Int63n(5000))...)
		}
	}
	if waits := c.Waits(); len(waits) > 0 && c.Intn(3) == 0 {
		from := waits[c.Intn(len(waits))].Tx
		if out := from.Out[0]; len(out.Script) == 1 {
			x.In = append(x.In, api.TxIn{Prev: made(from, 0)})
			x.Out = append(x.Out, pay(c.script(), out.Value-20000)...)
		}
	}
	c.txs = append(c.txs, x)
	return x
}

// step performs an operation, or something else that changes nothing.
func (c *chaos) step(t *testing.T) (int, api.Errno) {
	t.Helper()
	o := c.operation()
	a := c.try(t, o)
	if o.Kind == node.Block && a.Err == api.OK {
		b, _ := block.Decode(o.Data)
		c.blocks = append(c.blocks, id(b))
		if a.N == 0 {
			c.side = id(b)
		}
	}
	switch c.Intn(20) {
	case 0:
		if err := c.Compact(); err != api.OK {
			t.Fatalf("Compact: error %d", err)
		}
		c.expect(t, "Compact")
	case 1:
		c.disk.Crash(0, 0)
		c.open(t)
	case 2:
		before := len(c.plain.ops)
		// What is told doesn't change anything.
		c.Block()
		if c.Ops() != before {
			t.Errorf("%d operations", c.Ops())
		}
	}
	return o.Kind, a.Err
}

// TestP26_1Random: whatever happens, the node tells what the plain one does, and a block of its own is accepted.
func TestP26_1Random(t *testing.T) {
	t.Parallel()
	done, refused := map[int]int{}, map[api.Errno]int{}
	forks := 0
	for seed := range int64(6) {
		c := &chaos{worldOf(t, 2), rand.New(rand.NewSource(seed)), nil, api.Hash{}, nil}
		c.do(t, node.Op{Kind: node.Desc, Text: texts()[c.Intn(4)]}, api.OK)
		first := c.child(c.Tip(), append(pay(c.Scripts()[0], 5*api.Coin, 6*api.Coin), pay(open(), api.Coin, api.Coin, api.Coin)...))
		c.receive(t, first, api.OK)
		c.grow(t, 10)
		for range 90 {
			tip, height := c.Tip(), c.Height()
			kind, err := c.step(t)
			if err == api.OK {
				done[kind]++
			}
			refused[err]++
			if up, ok := c.Tree().At(c.Tip(), height); ok && up != tip {
				forks++
			}
			c.expectNext(t)
		}
	}
	if len(done) != 10 || forks < 10 || len(refused) < 10 {
		t.Errorf("too little happened: %v, errors %v, %d forks", done, refused, forks)
	}
	for kind, n := range done {
		if n < 4 {
			t.Errorf("the kind %d happened %d times only", kind, n)
		}
	}
}

// expectNext: the next block could be accepted, and would leave nothing of what waits.
func (c *chaos) expectNext(t *testing.T) {
	t.Helper()
	b := c.Block()
	if !block.Proved(b.Header) {
		return
	}
	a, after := c.plain.tried(node.Op{Kind: node.Block, Data: block.Encode(b)})
	if a.Err != api.OK || len(after.Pool.List()) != 0 || after.Chain.Tip() != id(b) {
		t.Errorf("the next block: error %d, %d wait then", a.Err, len(after.Pool.List()))
	}
}
