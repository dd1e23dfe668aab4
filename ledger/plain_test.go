package ledger_test

import (
	"bytes"
	"math"
	"slices"
	"testing"

	"strongbox/api"
	"strongbox/block"
	"strongbox/chain"
	"strongbox/check"
	"strongbox/coins"
	"strongbox/hdkey"
	"strongbox/ledger"
	"strongbox/pool"
	"strongbox/ring"
	"strongbox/tx"
)

const unit = api.Coin

// plainLedger is a ledger as the document says it, with everything told anew by each call.
type plainLedger struct {
	list      []api.Tx
	ids       []api.Hash
	abandoned []api.Hash
	locks     []api.OutPoint
}

func (p *plainLedger) clone() *plainLedger {
	return &plainLedger{slices.Clone(p.list), slices.Clone(p.ids), slices.Clone(p.abandoned), slices.Clone(p.locks)}
}

func (p *plainLedger) add(t api.Tx) bool {
	id := tx.Id(t)
	if slices.Contains(p.ids, id) {
		return false
	}
	p.list, p.ids = append(p.list, t), append(p.ids, id)
	return true
}

func has(r *ring.Ring, s []byte) bool {
	return slices.ContainsFunc(r.Scripts(), func(own []byte) bool { return bytes.Equal(own, s) })
}

func (p *plainLedger) mine(r *ring.Ring, t api.Tx) bool {
	for _, o := range t.Out {
		if has(r, o.Script) {
			return true
		}
	}
	for _, in := range t.In {
		i := slices.Index(p.ids, in.Prev.Hash)
		if i >= 0 && int(in.Prev.Index) < len(p.list[i].Out) && has(r, p.list[i].Out[in.Prev.Index].Script) {
			return true
		}
	}
	return false
}

// scan processes a chain, letting a ring see what it has.
func (p *plainLedger) scan(c *chain.Chain, r *ring.Ring, from int) int {
	n := 0
	for again := true; again; {
		again = false
		for h := max(from, 0); h <= c.Height() && from <= c.Height(); h++ {
			b, _ := c.At(h)
			for _, t := range b.Txs {
				for _, o := range t.Out {
					again = r.Saw(o.Script) || again
				}
				if p.mine(r, t) && p.add(t) {
					n++
				}
			}
		}
	}
	return n
}

func spends(t api.Tx, at api.OutPoint) bool {
	return slices.ContainsFunc(t.In, func(in api.TxIn) bool { return in.Prev == at })
}

// parents returns the positions of the recorded transactions that aren't Confirmed and whose outputs a transaction spends.
func (p *plainLedger) parents(c *chain.Chain, i int) []int {
	var list []int
	for j, id := range p.ids {
		_, confirmed := c.Where(id)
		for k := range p.list[j].Out {
			if !confirmed && spends(p.list[i], api.OutPoint{Hash: id, Index: uint32(k)}) {
				list = append(list, j)
				break
			}
		}
	}
	return list
}

// clashes: does a transaction that isn't Confirmed, or one that it depends on, spend what another one on the chain spends?
func (p *plainLedger) clashes(c *chain.Chain, i int) bool {
	for _, in := range p.list[i].In {
		if id, ok := c.Spender(in.Prev); ok && id != p.ids[i] {
			return true
		}
	}
	return slices.ContainsFunc(p.parents(c, i), func(j int) bool { return p.clashes(c, j) })
}

func (p *plainLedger) dependsOn(c *chain.Chain, i, on int) bool {
	return slices.ContainsFunc(p.parents(c, i), func(j int) bool { return j == on || p.dependsOn(c, j, on) })
}

func (p *plainLedger) state(v ledger.View, id api.Hash) (int, int) {
	i := slices.Index(p.ids, id)
	if i < 0 {
		return ledger.Unknown, 0
	}
	if h, ok := v.Chain.Where(id); ok {
		return ledger.Confirmed, v.Chain.Height() - h + 1
	}
	if p.clashes(v.Chain, i) {
		return ledger.Conflicted, 0
	}
	if slices.Contains(p.abandoned, id) {
		return ledger.Abandoned, 0
	}
	for _, e := range v.Pool.List() {
		if e.Id == id {
			return ledger.Pooled, 0
		}
	}
	return ledger.Inactive, 0
}

func (p *plainLedger) isIn(v ledger.View, i int, state int) bool {
	got, _ := p.state(v, p.ids[i])
	return got == state
}

func (p *plainLedger) abandon(v ledger.View, id api.Hash) api.Errno {
	state, _ := p.state(v, id)
	if state == ledger.Unknown {
		return api.ErrNone
	} else if state != ledger.Inactive {
		return api.ErrState
	}
	ids := []api.Hash{id}
	for i := range p.list {
		if p.isIn(v, i, ledger.Inactive) && p.dependsOn(v.Chain, i, slices.Index(p.ids, id)) {
			ids = append(ids, p.ids[i])
		}
	}
	p.abandoned = append(p.abandoned, ids...)
	return api.OK
}

func (p *plainLedger) lock(at api.OutPoint, on bool) {
	p.locks = slices.DeleteFunc(p.locks, func(q api.OutPoint) bool { return q == at })
	if on {
		p.locks = append(p.locks, at)
	}
}

func (p *plainLedger) coins(v ledger.View) []coins.Entry {
	var list []coins.Entry
	for _, e := range v.Chain.Coins() {
		if has(v.Ring, e.Coin.Out.Script) {
			list = append(list, e)
		}
	}
	return list
}

func young(v ledger.View, e coins.Entry) bool {
	return e.Coin.Fresh && v.Chain.Height()+1-e.Coin.Height < 10
}

func (p *plainLedger) spendable(v ledger.View) []coins.Entry {
	var list []coins.Entry
	for _, e := range p.coins(v) {
		free := !young(v, e) && !slices.Contains(p.locks, e.Place)
		for _, w := range v.Pool.List() {
			free = free && !spends(w.Tx, e.Place)
		}
		for i, t := range p.list {
			if spends(t, e.Place) && (p.isIn(v, i, ledger.Inactive) || p.isIn(v, i, ledger.Pooled)) {
				free = false
			}
		}
		if free {
			list = append(list, e)
		}
	}
	return list
}

func (p *plainLedger) balance(v ledger.View) ledger.Balance {
	var b ledger.Balance
	for _, e := range p.coins(v) {
		if young(v, e) {
			b.Young += e.Coin.Out.Value
		} else {
			b.Ready += e.Coin.Out.Value
		}
	}
	for n, t := range p.list {
		if !p.isIn(v, n, ledger.Pooled) {
			continue
		}
		for i, o := range t.Out {
			if _, spent := v.Pool.Spender(made(t, uint32(i))); !spent && has(v.Ring, o.Script) {
				b.Pending += o.Value
			}
		}
	}
	return b
}

func sameEntry(a, b coins.Entry) bool {
	return a.Place == b.Place && a.Coin.Height == b.Coin.Height && a.Coin.Fresh == b.Coin.Fresh && a.Coin.Out.Value == b.Coin.Out.Value && bytes.Equal(a.Coin.Out.Script, b.Coin.Out.Script)
}

// wallet is a ledger and a plain one that look at the same.
type wallet struct {
	ledger.View
	*ledger.Ledger
	plain *plainLedger
	marks int
}

// walletOf returns a wallet that has nothing but the scripts of a descriptor for each name.
func walletOf(t *testing.T, gap int, names ...string) *wallet {
	t.Helper()
	w := &wallet{ledger.View{Chain: chain.New(), Pool: pool.New(100000), Ring: ring.New(gap)}, ledger.New(), &plainLedger{}, 0}
	for i, name := range names {
		k, _ := hdkey.Master(append(make([]byte, 31), byte(i)))
		if _, err := w.Ring.Add(name + "(" + k.Text() + "/*)"); err != api.OK {
			t.Fatalf("a descriptor: error %d", err)
		}
	}
	return w
}

// expect holds the ledger against the plain one.
func (w *wallet) expect(t *testing.T, what string) {
	t.Helper()
	if !slices.EqualFunc(w.List(), w.plain.list, tx.Same) {
		t.Fatalf("%s: %d transactions; want %d", what, len(w.List()), len(w.plain.list))
	}
	ids := append(slices.Clone(w.plain.ids), api.Hash{}, api.Hash{1})
	for _, e := range w.Pool.List() {
		ids = append(ids, e.Id)
	}
	for i, id := range ids {
		state, depth := w.plain.state(w.View, id)
		if got, n := w.State(w.View, id); got != state || n != depth {
			t.Errorf("%s: State of %d = %d, %d; want %d, %d", what, i, got, n, state, depth)
		}
	}
	for _, c := range []struct {
		what      string
		got, want []coins.Entry
	}{{"Coins", w.Coins(w.View), w.plain.coins(w.View)}, {"Spendable", w.Spendable(w.View), w.plain.spendable(w.View)}} {
		if !slices.EqualFunc(c.got, c.want, sameEntry) {
			t.Errorf("%s: %s = %v; want %v", what, c.what, c.got, c.want)
		}
	}
	if got, want := w.Balance(w.View), w.plain.balance(w.View); got != want {
		t.Errorf("%s: Balance = %v; want %v", what, got, want)
	}
}

// expectState tells the states of transactions.
func (w *wallet) expectState(t *testing.T, what string, want int, list ...api.Tx) {
	t.Helper()
	for i, x := range list {
		if got, depth := w.State(w.View, tx.Id(x)); got != want || (depth > 0) != (want == ledger.Confirmed) {
			t.Errorf("%s: State of %d = %d, %d; want %d", what, i, got, depth, want)
		}
	}
	w.expect(t, what)
}

// record adds transactions to both.
func (w *wallet) record(t *testing.T, list ...api.Tx) {
	t.Helper()
	for _, x := range list {
		if want := w.plain.add(x); w.Add(x) != want {
			t.Fatalf("Add isn't %t", want)
		}
	}
}

func (w *wallet) scan(t *testing.T, from, want int) {
	t.Helper()
	g := w.Ring.Clone()
	n := w.plain.scan(w.Chain, g, from)
	if got := w.Scan(w.View, from); got != n || got != want {
		t.Errorf("Scan from %d = %d; want %d (the plain ledger: %d)", from, got, want, n)
	}
	if !w.Ring.Same(g) {
		t.Errorf("Scan from %d leads to another ring", from)
	}
	w.expect(t, "Scan")
}

func (w *wallet) abandon(t *testing.T, id api.Hash, want api.Errno) {
	t.Helper()
	was := w.Ledger.Clone()
	err := w.plain.abandon(w.View, id)
	if got := w.Abandon(w.View, id); got != want || err != want {
		t.Errorf("Abandon = %d; want %d (the plain ledger: %d)", got, want, err)
	}
	if w.Same(was) != (want != api.OK) {
		t.Errorf("Abandon, error %d: Same as before: %t", want, w.Same(was))
	}
	w.expect(t, "Abandon")
}

func (w *wallet) lock(at api.OutPoint, on bool) {
	w.plain.lock(at, on)
	w.Lock(at, on)
}

func (w *wallet) wait(t *testing.T, list ...api.Tx) {
	t.Helper()
	for _, x := range list {
		if err := w.Pool.Add(w.Chain, x); err != api.OK {
			t.Fatalf("the pool doesn't accept a transaction: error %d", err)
		}
	}
}

// script returns what a descriptor has at an index that the ring has.
func (w *wallet) script(n, i int) []byte {
	for before := range n {
		i += w.Ring.End(before)
	}
	return w.Ring.Scripts()[i]
}

// open is a script that everybody may spend.
func open() []byte { return []byte{0x51} }

// child returns a block that follows one, with a coinbase that no other one has.
func (w *wallet) child(up api.Hash, first []api.TxOut, more ...api.Tx) api.Block {
	w.marks++
	x := w.Chain.Tree()
	coinbase := api.Tx{In: []api.TxIn{{Prev: api.OutPoint{Index: math.MaxUint32}, Script: []byte{2, byte(w.marks), byte(w.marks >> 8)}}}, Out: first}
	b := api.Block{Header: api.Header{Prev: up, Time: x.Median(up) + 1500, Bits: x.Expected(up)}, Txs: append([]api.Tx{coinbase}, more...)}
	b.Merkle = block.Root(b)
	for !block.Proved(b.Header) {
		b.Nonce++
	}
	return b
}

// mine lets the chain receive a block behind one of its blocks, and returns it.
func (w *wallet) mine(t *testing.T, up api.Hash, first []api.TxOut, more ...api.Tx) api.Block {
	t.Helper()
	b := w.child(up, first, more...)
	if _, err := w.Chain.Accept(b); err != api.OK {
		t.Fatalf("a block isn't accepted: error %d", err)
	}
	return b
}

// grow lets the chain receive blocks that pay to everybody.
func (w *wallet) grow(t *testing.T, n int) {
	t.Helper()
	for range n {
		w.mine(t, w.Chain.Tip(), pay(open(), unit))
	}
}

// fork replaces the last blocks by one more, and lets the pool know.
func (w *wallet) fork(t *testing.T, back int) {
	t.Helper()
	at, _ := w.Chain.At(w.Chain.Height() - back)
	up := block.Id(at.Header)
	for range back + 1 {
		up = block.Id(w.mine(t, up, pay(open(), unit)).Header)
	}
	w.Pool.Refresh(w.Chain)
}

func pay(script []byte, values ...int64) []api.TxOut {
	var list []api.TxOut
	for _, v := range values {
		list = append(list, api.TxOut{Value: v, Script: script})
	}
	return list
}

func made(t api.Tx, index uint32) api.OutPoint { return api.OutPoint{Hash: tx.Id(t), Index: index} }

// spending returns a transaction that spends places that everybody may spend, or that needn't be there.
func spending(outs []api.TxOut, places ...api.OutPoint) api.Tx {
	t := api.Tx{Version: 2, Out: outs}
	for _, p := range places {
		t.In = append(t.In, api.TxIn{Prev: p, Seq: math.MaxUint32})
	}
	return t
}

// signed returns a transaction that spends one output of the wallet.
func (w *wallet) signed(t *testing.T, outs []api.TxOut, from api.Tx, index uint32) api.Tx {
	t.Helper()
	x := spending(outs, made(from, index))
	o := from.Out[index]
	in, ok := check.Spend(x, 0, o, w.Ring.Inner(o.Script), w.Ring)
	if !ok {
		t.Fatalf("an output can't be spent")
	}
	x.In[0] = in
	return x
}

// rich returns a wallet with two scripts of a key ahead, and a coinbase, which is recorded, that pays to each of them twice: the outputs 0 and 1, 2 and 3; and, at 4 and 5, to everybody. It can be spent.
func rich(t *testing.T) (*wallet, api.Tx) {
	t.Helper()
	w := walletOf(t, 2, "wpkh")
	outs := slices.Concat(pay(w.script(0, 0), unit, 2*unit), pay(w.script(0, 1), 3*unit, 4*unit), pay(open(), 5*unit, 6*unit))
	b := w.mine(t, w.Chain.Tip(), outs)
	w.grow(t, 9)
	w.scan(t, 0, 1)
	return w, b.Txs[0]
}
