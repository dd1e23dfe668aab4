package node_test

import (
	"bytes"
	"cmp"
	"fmt"
	"math"
	"slices"
	"testing"

	"strongbox/amount"
	"strongbox/api"
	"strongbox/block"
	"strongbox/chain"
	"strongbox/coins"
	"strongbox/disk"
	"strongbox/fees"
	"strongbox/hdkey"
	"strongbox/ledger"
	"strongbox/node"
	"strongbox/pool"
	"strongbox/ring"
	"strongbox/spend"
	"strongbox/tree"
	"strongbox/tx"
)

// plainNode is a node as the document says it, without a disk.
type plainNode struct {
	*ledger.Ledger
	ledger.View
	book   *fees.Book
	gap    int
	texts  []string
	handed []int // of each descriptor, the indices below one more than the greatest one that was handed out
	ops    []node.Op
}

func plainOf(gap int) *plainNode {
	return &plainNode{ledger.New(), ledger.View{Chain: chain.New(), Pool: pool.New(20000), Ring: ring.New(gap)}, fees.New(), gap, nil, nil, nil}
}

func (p *plainNode) clone() *plainNode {
	v := ledger.View{Chain: p.Chain.Clone(), Pool: p.Pool.Clone(), Ring: p.Ring.Clone()}
	return &plainNode{p.Ledger.Clone(), v, p.book.Clone(), p.gap, slices.Clone(p.texts), slices.Clone(p.handed), slices.Clone(p.ops)}
}

// tried returns what an operation results in, and the node after it.
func (p *plainNode) tried(o node.Op) (node.Answer, *plainNode) {
	q := p.clone()
	a := q.perform(o)
	if a.Err != api.OK {
		return node.Answer{Err: a.Err}, p
	}
	q.ops = append(q.ops, o)
	return a, q
}

func (p *plainNode) perform(o node.Op) (a node.Answer) {
	switch o.Kind {
	case node.Block:
		a.N, a.Err = p.receive(o.Data)
		a.Id = p.Chain.Tip()
	case node.Tx:
		t, err := tx.Decode(o.Data)
		if err != api.OK {
			return node.Answer{Err: err}
		}
		a.Id, a.Err = p.enter(t)
		if p.Mine(p.View, t) {
			p.Add(t)
		}
	case node.Desc:
		a.N, a.Err = p.Ring.Add(o.Text)
		p.texts, p.handed = append(p.texts, o.Text), append(p.handed, 0)
		p.Scan(p.View, 0)
	case node.Take:
		a.Place, a.Script, a.Err = p.handOut(o.N)
		p.Scan(p.View, 0)
	case node.Send:
		a.Tx, a.Err = spend.Build(p.Ledger, p.View, o.Order)
		if a.Err != api.OK {
			return a
		}
		a.Id, a.Err = p.enter(a.Tx)
		p.Add(a.Tx)
		if len(a.Tx.Out) == len(o.Order.Pay)+1 {
			p.handOut(o.Order.Change)
			p.Scan(p.View, 0)
		}
	case node.Bump:
		a.Tx, a.Err = spend.Bump(p.Ledger, p.View, o.Id, o.Rate)
		if a.Err != api.OK {
			return a
		}
		a.Id, a.Err = p.enter(a.Tx)
		p.Add(a.Tx)
	case node.Abandon:
		a.Err = p.Abandon(p.View, o.Id)
	case node.Rescan:
		a.N = p.Scan(p.View, o.N)
	case node.Lock:
		p.Lock(o.Place, o.On)
	case node.Label:
		a.Err = p.Label(o.Data, o.Text)
	default:
		a.Err = api.ErrArg
	}
	return a
}

func (p *plainNode) receive(data []byte) (int, api.Errno) {
	b, err := block.Decode(data)
	if err != api.OK {
		return 0, err
	}
	x, err := p.Chain.Accept(b)
	if err != api.OK {
		return 0, err
	}
	if len(x.Off) > 0 {
		p.rebuild()
	}
	var lost []api.Tx
	for i := len(x.Off) - 1; i >= 0; i-- {
		lost = append(lost, x.Off[i].Txs[1:]...)
	}
	p.Pool.Refresh(p.Chain, lost...)
	for _, b := range x.On {
		var ids []api.Hash
		for _, t := range b.Txs[1:] {
			ids = append(ids, tx.Id(t))
		}
		p.book.Block(p.Chain.Tree().Height(block.Id(b.Header)), ids...)
	}
	p.Scan(p.View, 0)
	return len(x.On), api.OK
}

// rebuild makes the ring of what was added and handed out.
func (p *plainNode) rebuild() {
	p.Ring = ring.New(p.gap)
	for n, s := range p.texts {
		p.Ring.Add(s)
		for range p.handed[n] {
			p.Ring.Take(n)
		}
	}
}

func (p *plainNode) enter(t api.Tx) (api.Hash, api.Errno) {
	if err := p.Pool.Add(p.Chain, t); err != api.OK {
		return api.Hash{}, err
	}
	for _, e := range p.Pool.List() {
		if e.Id == tx.Id(t) {
			rate, _ := amount.Rate(e.Fee, tx.Virtual(t))
			p.book.Enter(e.Id, rate, p.Chain.Height())
		}
	}
	return tx.Id(t), api.OK
}

func (p *plainNode) handOut(n int) (ring.Place, []byte, api.Errno) {
	place, script, err := p.Ring.Take(n)
	if err == api.OK {
		p.handed[n] = max(p.handed[n], int(place.Index)+1)
	}
	return place, script, err
}

// own is what a node and a plain one tell.
type own interface {
	Tip() api.Hash
	Height() int
	Coins() []coins.Entry
	Spendable() []coins.Entry
	Balance() ledger.Balance
	State(id api.Hash) (int, int)
	Own() []api.Tx
	Waits() []pool.Entry
	Scripts() [][]byte
	Estimate(target, percent int) (int64, api.Errno)
	Locked(p api.OutPoint) bool
	Labeled(script []byte) string
	Tree() *tree.Tree
	Ops() int
}

// told tells what a plain node has.
type told struct{ p *plainNode }

func (x told) Tip() api.Hash                        { return x.p.Chain.Tip() }
func (x told) Height() int                          { return x.p.Chain.Height() }
func (x told) Coins() []coins.Entry                 { return x.p.Coins(x.p.View) }
func (x told) Spendable() []coins.Entry             { return x.p.Spendable(x.p.View) }
func (x told) Balance() ledger.Balance              { return x.p.Balance(x.p.View) }
func (x told) State(id api.Hash) (int, int)         { return x.p.State(x.p.View, id) }
func (x told) Own() []api.Tx                        { return x.p.List() }
func (x told) Waits() []pool.Entry                  { return x.p.Pool.List() }
func (x told) Scripts() [][]byte                    { return x.p.Ring.Scripts() }
func (x told) Estimate(t, p int) (int64, api.Errno) { return x.p.book.Estimate(t, p) }
func (x told) Locked(p api.OutPoint) bool           { return x.p.Locked(p) }
func (x told) Labeled(s []byte) string              { return x.p.Labeled(s) }
func (x told) Tree() *tree.Tree                     { return x.p.Chain.Tree() }
func (x told) Ops() int                             { return len(x.p.ops) }

// all returns everything that is told, as text.
func all(x own) string {
	var s bytes.Buffer
	fmt.Fprintf(&s, "tip %x %d, %d operations, %v\n", x.Tip(), x.Height(), x.Ops(), x.Balance())
	for _, e := range x.Coins() {
		fmt.Fprintf(&s, "coin %v %t\n", e, x.Locked(e.Place))
	}
	for _, e := range x.Spendable() {
		fmt.Fprintf(&s, "spendable %x %d\n", e.Place.Hash, e.Place.Index)
	}
	for _, t := range x.Own() {
		state, depth := x.State(tx.Id(t))
		fmt.Fprintf(&s, "own %x %d %d\n", tx.Encode(t, true), state, depth)
	}
	for _, e := range x.Waits() {
		state, depth := x.State(e.Id)
		fmt.Fprintf(&s, "waits %x %x %d %d %d %d\n", e.Id, tx.Encode(e.Tx, true), e.Fee, e.Size, state, depth)
	}
	for _, b := range x.Scripts() {
		fmt.Fprintf(&s, "script %x %q\n", b, x.Labeled(b))
	}
	for target := range 14 {
		for _, percent := range []int{0, 1, 50, 100} {
			rate, err := x.Estimate(target, percent)
			fmt.Fprintf(&s, "%d %d;", rate, err)
		}
	}
	fmt.Fprintf(&s, "\n%d headers, %x, %t, %q\n", x.Tree().Count(), x.Tree().Tip(), x.Locked(api.OutPoint{}), x.Labeled(nil))
	return s.String()
}

// world is a node and a plain one, to which the same happens.
type world struct {
	*node.Node
	plain *plainNode
	disk  *disk.Disk
	marks int
}

func worldOf(t *testing.T, gap int, descs ...string) *world {
	t.Helper()
	w := &world{plain: plainOf(gap), disk: disk.New(20000)}
	w.open(t)
	for _, s := range descs {
		w.do(t, node.Op{Kind: node.Desc, Text: s}, api.OK)
	}
	return w
}

// open opens the disk.
func (w *world) open(t *testing.T) {
	t.Helper()
	n, err := node.Open(w.disk, w.plain.gap)
	if err != api.OK {
		t.Fatalf("Open: error %d", err)
	}
	w.Node = n
	w.expect(t, "Open")
}

// expect: the node tells what the plain one does.
func (w *world) expect(t *testing.T, what string) {
	t.Helper()
	got, want := all(w.Node), all(told{w.plain})
	if got != want {
		t.Fatalf("%s: the node has\n%s\nwant\n%s", what, got, want)
	}
}

// try performs an operation, whatever it results in.
func (w *world) try(t *testing.T, o node.Op) node.Answer {
	t.Helper()
	want, after := w.plain.tried(o)
	got := w.Do(o)
	if want.Err == api.OK && len(o.Bytes()) == 0 {
		want, after = node.Answer{Err: api.ErrSize}, w.plain
	}
	if fmt.Sprint(got) != fmt.Sprint(want) {
		t.Fatalf("operation %d: %v; want %v", o.Kind, got, want)
	}
	w.plain = after
	w.expect(t, fmt.Sprintf("operation %d, error %d", o.Kind, got.Err))
	return got
}

// do performs an operation that results in an error, or in none.
func (w *world) do(t *testing.T, o node.Op, err api.Errno) node.Answer {
	t.Helper()
	a := w.try(t, o)
	if a.Err != err {
		t.Fatalf("operation %d: error %d; want %d", o.Kind, a.Err, err)
	}
	return a
}

// receive performs the operation Block.
func (w *world) receive(t *testing.T, b api.Block, err api.Errno) node.Answer {
	t.Helper()
	return w.do(t, node.Op{Kind: node.Block, Data: block.Encode(b)}, err)
}

// grow lets the node receive blocks of its own.
func (w *world) grow(t *testing.T, n int) {
	t.Helper()
	for range n {
		w.receive(t, w.Block(), api.OK)
	}
}

// child returns a block behind one, whose coinbase pays these outputs, and is another one than all before it.
func (w *world) child(up api.Hash, outs []api.TxOut, more ...api.Tx) api.Block {
	w.marks++
	x := w.Tree()
	coinbase := api.Tx{In: []api.TxIn{{Prev: api.OutPoint{Index: math.MaxUint32}, Script: []byte{3, byte(w.marks), byte(w.marks >> 8), 7}}}, Out: outs}
	b := api.Block{Header: api.Header{Version: 3, Prev: up, Time: x.Median(up) + 600, Bits: cmp.Or(x.Expected(up), api.PowLimit)}, Txs: append([]api.Tx{coinbase}, more...)}
	return proven(b)
}

// proven returns a block with a root and work.
func proven(b api.Block) api.Block {
	b.Merkle = block.Root(b)
	for !block.Proved(b.Header) {
		b.Nonce++
	}
	return b
}

func id(b api.Block) api.Hash { return block.Id(b.Header) }

// up returns the block so many below the tip.
func (w *world) up(back int) api.Hash {
	b, _ := w.Tree().At(w.Tip(), w.Height()-back)
	return b
}

// fork lets the node receive one block more than so many below the tip, which pay to a script.
func (w *world) fork(t *testing.T, back int, script []byte) {
	t.Helper()
	up := w.up(back)
	for range back + 1 {
		b := w.child(up, pay(script, api.Coin))
		w.receive(t, b, api.OK)
		up = id(b)
	}
}

func open() []byte { return []byte{0x51} }

func pay(script []byte, values ...int64) []api.TxOut {
	var list []api.TxOut
	for _, v := range values {
		list = append(list, api.TxOut{Value: v, Script: script})
	}
	return list
}

// spending returns a transaction that spends places that everybody may spend.
func spending(outs []api.TxOut, places ...api.OutPoint) api.Tx {
	t := api.Tx{Version: 2, Out: outs}
	for _, p := range places {
		t.In = append(t.In, api.TxIn{Prev: p, Seq: math.MaxUint32})
	}
	return t
}

func made(t api.Tx, index uint32) api.OutPoint { return api.OutPoint{Hash: tx.Id(t), Index: index} }

func key(n int) string {
	k, _ := hdkey.Master(append(make([]byte, 31), byte(n)))
	return k.Text()
}

// texts returns descriptors, of which the second one has no index.
func texts() []string {
	return []string{"wpkh(" + key(0) + "/*)", "pkh(" + key(1) + ")", "sh(wpkh(" + key(2) + "/1/*))", "wsh(multi(1," + key(3) + "/*," + key(4) + "/*))"}
}

// order returns an order of one payment to everybody.
func order(value int64) spend.Order { return spend.Order{Pay: pay(open(), value), Rate: 1000} }
