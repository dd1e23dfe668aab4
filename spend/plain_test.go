package spend_test

import (
	"math"
	"math/big"
	"slices"
	"strconv"
	"testing"

	"strongbox/amount"
	"strongbox/api"
	"strongbox/block"
	"strongbox/chain"
	"strongbox/check"
	"strongbox/choose"
	"strongbox/coins"
	"strongbox/hdkey"
	"strongbox/ledger"
	"strongbox/pool"
	"strongbox/ring"
	"strongbox/spend"
	"strongbox/tx"
	"strongbox/wire"
)

// key returns a private key as text.
func key(n int) string {
	k, _ := hdkey.Master(append(make([]byte, 31), byte(n)))
	return k.Text()
}

// shown returns the same key without what signs.
func shown(n int) string {
	k, _ := hdkey.Master(append(make([]byte, 31), byte(n)))
	p, _ := k.Public()
	return p.Text()
}

// keys returns several of them, with an index.
func keys(list ...int) string {
	s := ""
	for _, n := range list {
		s += "," + key(n) + "/*"
	}
	return s
}

// forms returns a descriptor of each form.
func forms() []string {
	return []string{
		"wpkh(" + key(0) + "/*)", "pkh(" + key(1) + "/*)", "sh(wpkh(" + key(2) + "/*))", "wsh(multi(2" + keys(3, 4, 5) + "))",
		"multi(1" + keys(6) + ")", "sh(sortedmulti(2" + keys(7, 8) + "))", "sh(wsh(multi(3" + keys(9, 10, 11) + ")))", "wpkh(" + key(12) + ")",
	}
}

// wallet is a ledger, and what it looks at.
type wallet struct {
	*ledger.Ledger
	ledger.View
	marks int
}

// walletOf returns a wallet that has nothing but scripts.
func walletOf(t *testing.T, gap int, descs ...string) *wallet {
	t.Helper()
	w := &wallet{ledger.New(), ledger.View{Chain: chain.New(), Pool: pool.New(100000), Ring: ring.New(gap)}, 0}
	for _, d := range descs {
		if _, err := w.Ring.Add(d); err != api.OK {
			t.Fatalf("a descriptor: error %d", err)
		}
	}
	return w
}

// script returns what a descriptor has at an index that the ring has.
func (w *wallet) script(n, i int) []byte {
	for before := range n {
		i += w.Ring.End(before)
	}
	return w.Ring.Scripts()[i]
}

func open() []byte { return []byte{0x51} }

func pay(script []byte, values ...int64) []api.TxOut {
	var list []api.TxOut
	for _, v := range values {
		list = append(list, api.TxOut{Value: v, Script: script})
	}
	return list
}

// mine lets the chain receive a block, whose first transaction it returns.
func (w *wallet) mine(t *testing.T, first []api.TxOut, more ...api.Tx) api.Tx {
	t.Helper()
	w.marks++
	x := w.Chain.Tree()
	coinbase := api.Tx{In: []api.TxIn{{Prev: api.OutPoint{Index: math.MaxUint32}, Script: []byte{2, byte(w.marks), byte(w.marks >> 8)}}}, Out: first}
	b := api.Block{Header: api.Header{Prev: w.Chain.Tip(), Time: x.Median(w.Chain.Tip()) + 1500, Bits: x.Expected(w.Chain.Tip())}, Txs: append([]api.Tx{coinbase}, more...)}
	b.Merkle = block.Root(b)
	for !block.Proved(b.Header) {
		b.Nonce++
	}
	if _, err := w.Chain.Accept(b); err != api.OK {
		t.Fatalf("a block isn't accepted: error %d", err)
	}
	w.Pool.Refresh(w.Chain)
	w.Scan(w.View, 0)
	return coinbase
}

// grow lets what is there become old enough.
func (w *wallet) grow(t *testing.T) {
	t.Helper()
	for range 9 {
		w.mine(t, pay(open(), 1))
	}
}

// rich returns a wallet with descriptors, and a coin of so many values for the first script of each one.
func rich(t *testing.T, descs []string, values ...int64) *wallet {
	t.Helper()
	w := walletOf(t, 2, descs...)
	for n := range descs {
		w.mine(t, pay(w.script(n, 0), values...))
	}
	w.grow(t)
	return w
}

// clone returns a wallet to which the same has happened.
func (w *wallet) clone() *wallet {
	return &wallet{w.Ledger.Clone(), ledger.View{Chain: w.Chain.Clone(), Pool: w.Pool.Clone(), Ring: w.Ring.Clone()}, w.marks}
}

// plainSize is the size of an input as the document says it.
func plainSize(in api.TxIn) int {
	var bytes, witness wire.Writer
	bytes.Bytes(in.Script)
	witness.Size(uint64(len(in.Witness)))
	for _, item := range in.Witness {
		witness.Bytes(item)
	}
	weight := 4*(40+len(bytes.Out())) + len(witness.Out())
	return int(math.Ceil(float64(weight) / 4))
}

func plainBytes(o api.TxOut) int {
	if len(o.Script) >= 253 {
		return 11 + len(o.Script)
	}
	return 9 + len(o.Script)
}

func plainDust(o api.TxOut) int64 { return amount.Dust(plainBytes(o)) }

// plainSign signs all inputs, and tells whether that could be done.
func plainSign(w *wallet, t api.Tx, outs []api.TxOut) (api.Tx, bool) {
	t = tx.Clone(t)
	able := true
	for i, o := range outs {
		var ok bool
		t.In[i], ok = check.Spend(t, i, o, w.Ring.Inner(o.Script), w.Ring)
		able = able && ok
	}
	return t, able && check.All(t, outs...) == api.OK
}

// plainSources returns the coins that can be selected.
func plainSources(w *wallet) ([]coins.Entry, []choose.Coin) {
	var list []coins.Entry
	var sizes []choose.Coin
	for _, e := range w.Spendable(w.View) {
		x := api.Tx{In: []api.TxIn{{Prev: e.Place, Seq: 0xfffffffd}}}
		x, ok := plainSign(w, x, []api.TxOut{e.Coin.Out})
		if ok {
			list = append(list, e)
			sizes = append(sizes, choose.Coin{Value: e.Coin.Out.Value, Size: plainSize(x.In[0])})
		}
	}
	return list, sizes
}

// plainNeed returns what must be selected for an order.
func plainNeed(o spend.Order, change []byte) (int64, api.Errno) {
	need, size := int64(0), 13
	for _, out := range append(slices.Clone(o.Pay), api.TxOut{Script: change}) {
		need += out.Value
		size += plainBytes(out)
	}
	fee, err := amount.Fee(o.Rate, size)
	if err != api.OK {
		return 0, api.ErrFee
	}
	return need + fee, api.OK
}

// spare returns how much more than is needed for an order all coins are worth.
func (w *wallet) spare(o spend.Order) int64 {
	_, change, _ := w.Ring.Clone().Take(o.Change)
	need, _ := plainNeed(o, change)
	_, list := plainSources(w)
	for _, c := range list {
		fee, _ := amount.Fee(o.Rate, c.Size)
		need -= max(c.Value-fee, 0)
	}
	return -need
}

// plainErrors returns the errors of an order that can be seen without coins, all that apply.
func plainErrors(w *wallet, o spend.Order) []api.Errno {
	var list []api.Errno
	if len(o.Pay) == 0 || len(o.Pay) > 100 || o.Way < 0 || o.Way > 3 || o.Change < 0 || o.Change >= len(w.Ring.Texts()) {
		list = append(list, api.ErrArg)
	}
	sum := new(big.Int)
	for _, out := range o.Pay {
		sum.Add(sum, big.NewInt(out.Value))
		if out.Value < 0 || out.Value > api.MaxMoney || sum.Cmp(big.NewInt(api.MaxMoney)) > 0 {
			list = append(list, api.ErrRange)
		}
		if out.Value < plainDust(out) {
			list = append(list, api.ErrFee)
		}
	}
	if o.Rate < 1000 {
		list = append(list, api.ErrFee)
	}
	return list
}

// plainBuild is Build as the document says it.
func plainBuild(w *wallet, o spend.Order) (api.Tx, api.Errno) {
	if list := plainErrors(w, o); len(list) > 0 {
		return api.Tx{}, slices.Min(list)
	}
	_, change, err := w.Ring.Clone().Take(o.Change)
	if err != api.OK {
		return api.Tx{}, err
	}
	need, err := plainNeed(o, change)
	if err != api.OK {
		return api.Tx{}, err
	}
	back := api.TxOut{Script: change}
	task := choose.Task{Need: need, Extra: plainDust(back), Rate: o.Rate, Tries: 10000, Seed: o.Seed}
	list, sizes := plainSources(w)
	var chosen []int
	switch o.Way {
	case 0:
		chosen, err = choose.Choose(sizes, task)
	case 1:
		chosen, err = choose.Largest(sizes, task)
	case 2:
		chosen, err = choose.Branch(sizes, task)
	case 3:
		chosen, err = choose.Throw(sizes, task)
	}
	if err != api.OK {
		return api.Tx{}, err
	}
	x := api.Tx{Version: 2, Out: slices.Clone(o.Pay)}
	var outs []api.TxOut
	for _, i := range chosen {
		x.In = append(x.In, api.TxIn{Prev: list[i].Place, Seq: 0xfffffffd})
		outs = append(outs, list[i].Coin.Out)
	}
	whole := x
	whole.Out = append(slices.Clone(x.Out), back)
	signed, _ := plainSign(w, whole, outs)
	fee, err := amount.Fee(o.Rate, tx.Virtual(signed))
	if err != api.OK {
		return api.Tx{}, api.ErrFee
	}
	back.Value = total(outs) - total(x.Out) - fee
	if back.Value >= plainDust(back) {
		x.Out = append(x.Out, back)
	}
	x, _ = plainSign(w, x, outs)
	return x, api.OK
}

func total(outs []api.TxOut) int64 {
	sum := int64(0)
	for _, o := range outs {
		sum += o.Value
	}
	return sum
}

// plainBump is Bump as the document says it, in numbers without an end.
func plainBump(w *wallet, id api.Hash, rate int64) (api.Tx, api.Errno) {
	x, ok := w.Get(id)
	if !ok {
		return api.Tx{}, api.ErrNone
	}
	if state, _ := w.State(w.View, id); state != ledger.Pooled && state != ledger.Inactive {
		return api.Tx{}, api.ErrState
	}
	var outs []api.TxOut
	for _, in := range x.In {
		c, ok := w.Chain.Coin(in.Prev)
		if !ok {
			return api.Tx{}, api.ErrSpent
		}
		outs = append(outs, c.Out)
	}
	last := len(x.Out) - 1
	if last < 1 || !has(w.Ring, x.Out[last].Script) {
		return api.Tx{}, api.ErrFunds
	}
	signed, able := plainSign(w, x, outs)
	fee, err := amount.Fee(rate, tx.Virtual(signed))
	if rate < 1000 || err != api.OK {
		return api.Tx{}, api.ErrFee
	}
	if !able {
		return api.Tx{}, api.ErrLocked
	}
	was := new(big.Int)
	for _, o := range outs {
		was.Add(was, big.NewInt(o.Value))
	}
	for _, o := range x.Out {
		was.Sub(was, big.NewInt(o.Value))
	}
	more, _ := amount.Fee(1000, tx.Virtual(signed))
	goal := new(big.Int).Add(was, big.NewInt(more))
	if goal.Cmp(big.NewInt(fee)) < 0 {
		goal.SetInt64(fee)
	}
	value := new(big.Int).Sub(was, goal)
	value.Add(value, big.NewInt(x.Out[last].Value))
	if value.Cmp(big.NewInt(plainDust(x.Out[last]))) < 0 {
		return api.Tx{}, api.ErrFunds
	}
	x.Out[last].Value = value.Int64()
	x, _ = plainSign(w, x, outs)
	return x, api.OK
}

func has(r *ring.Ring, s []byte) bool {
	_, ok := r.Find(s)
	return ok
}

// expectBuild holds Build against the plain one and its promises, and returns what it made.
func (w *wallet) expectBuild(t *testing.T, what string, o spend.Order) (api.Tx, api.Errno) {
	t.Helper()
	want, wantErr := plainBuild(w, o)
	before := w.clone()
	got, err := spend.Build(w.Ledger, w.View, o)
	if err != wantErr || !tx.Same(got, want) {
		t.Fatalf("%s: Build = %v, error %d; want %v, error %d", what, got, err, want, wantErr)
	}
	if !w.Ring.Same(before.Ring) || !w.Ledger.Same(before.Ledger) || !w.Pool.Same(before.Pool) || w.Chain.Tip() != before.Chain.Tip() {
		t.Errorf("%s: Build changed something", what)
	}
	if err == api.OK {
		w.expectPaid(t, what, o, got)
	}
	return got, err
}

// expectPaid: a transaction fits the chain, pays what was ordered and at most one output more, of the ring, and leaves the fee.
func (w *wallet) expectPaid(t *testing.T, what string, o spend.Order, x api.Tx) {
	t.Helper()
	n := len(o.Pay)
	fee, err := w.Chain.Fits(x)
	want, _ := amount.Fee(o.Rate, tx.Virtual(x))
	if err != api.OK || fee < want || len(x.Out) < n || len(x.Out) > n+1 {
		t.Fatalf("%s: %d outputs, the fee is %d, not %d: error %d", what, len(x.Out), fee, want, err)
	}
	if !slices.EqualFunc(x.Out[:n], o.Pay, func(a, b api.TxOut) bool { return a.Value == b.Value && string(a.Script) == string(b.Script) }) {
		t.Errorf("%s: not what was ordered is paid", what)
	}
	if len(x.Out) > n {
		p, ok := w.Ring.Find(x.Out[n].Script)
		if fee != want || x.Out[n].Value < plainDust(x.Out[n]) || !ok || p.Desc != o.Change || int(p.Index) != w.Ring.Next(o.Change) {
			t.Errorf("%s: the change is %v, the fee %d, not %d", what, x.Out[n], fee, want)
		}
	}
	if err := w.Pool.Clone().Add(w.Chain, x); err != api.OK && tx.Virtual(x) < 100000 {
		t.Errorf("%s: the pool doesn't accept it: error %d", what, err)
	}
}

// expectBump holds Bump against the plain one, and returns what it made.
func (w *wallet) expectBump(t *testing.T, what string, id api.Hash, rate int64, wantErr api.Errno) api.Tx {
	t.Helper()
	what += " at the rate " + strconv.FormatInt(rate, 10)
	want, plainErr := plainBump(w, id, rate)
	before := w.clone()
	got, err := spend.Bump(w.Ledger, w.View, id, rate)
	if err != wantErr || plainErr != wantErr || !tx.Same(got, want) {
		t.Errorf("%s: Bump = %v, error %d; want %v, error %d (plain: error %d)", what, got, err, want, wantErr, plainErr)
	}
	if !w.Ring.Same(before.Ring) || !w.Ledger.Same(before.Ledger) || !w.Pool.Same(before.Pool) || w.Chain.Tip() != before.Chain.Tip() {
		t.Errorf("%s: Bump changed something", what)
	}
	return got
}
