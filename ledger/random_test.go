package ledger_test

import (
	"math/rand"
	"testing"

	"strongbox/api"
	"strongbox/block"
	"strongbox/tx"
)

// world is a wallet to which anything may happen.
type world struct {
	*wallet
	*rand.Rand
	known []api.Tx // that were made so far, and may be anywhere by now
}

func newWorld(t *testing.T, seed int64) *world {
	w := walletOf(t, 2, "wpkh", "pkh")
	x := &world{w, rand.New(rand.NewSource(seed)), nil}
	for range 12 {
		x.known = append(x.known, w.mine(t, w.Chain.Tip(), x.outs(5*unit)).Txs[0])
	}
	w.scan(t, 0, x.plain.clone().scan(w.Chain, w.Ring.Clone(), 0))
	return x
}

// outs returns up to four outputs, to everybody or to scripts of the wallet.
func (x *world) outs(total int64) []api.TxOut {
	n := 1 + x.Intn(4)
	var list []api.TxOut
	for range n {
		script := open()
		if x.Intn(2) == 0 {
			all := x.Ring.Scripts()
			script = all[x.Intn(len(all))]
		}
		list = append(list, pay(script, total/int64(n))...)
	}
	return list
}

// invent makes a transaction that spends one or two outputs of known ones, which may be spent by others as well.
func (x *world) invent(t *testing.T) api.Tx {
	total := int64(0)
	var list []api.TxIn
	for range 1 + x.Intn(2) {
		from := x.known[x.Intn(len(x.known))]
		i := uint32(x.Intn(len(from.Out)))
		one := spending(nil, made(from, i))
		if from.Out[i].Script[0] != open()[0] {
			// With another input beside it, the signature isn't valid, but the ledger doesn't ask for that.
			one = x.signed(t, nil, from, i)
		}
		list = append(list, one.In...)
		total += from.Out[i].Value
	}
	made := api.Tx{Version: 2, In: list, Out: x.outs(total - 10000 - int64(x.Intn(10000)))}
	if len(list) == 1 && x.Intn(8) > 0 {
		made = x.resigned(t, made)
	}
	x.known = append(x.known, made)
	return made
}

// resigned returns a transaction with one input that is signed for its outputs.
func (x *world) resigned(t *testing.T, made api.Tx) api.Tx {
	for _, from := range x.known {
		if tx.Id(from) == made.In[0].Prev.Hash && from.Out[made.In[0].Prev.Index].Script[0] != open()[0] {
			return x.signed(t, made.Out, from, made.In[0].Prev.Index)
		}
	}
	return made
}

// blockOf returns a block behind another one, with transactions that fit the chain together.
func (x *world) blockOf(up api.Hash) api.Block {
	base := x.child(up, x.outs(10*unit))
	for range x.Intn(4) {
		more := append(base.Txs[1:len(base.Txs):len(base.Txs)], x.known[x.Intn(len(x.known))])
		b := x.child(up, base.Txs[0].Out, more...)
		if _, err := x.Chain.Clone().Accept(b); err == api.OK {
			base = b
		}
	}
	return base
}

// grow lets the chain receive blocks upon one of the last ones, one more than those that they replace.
func (x *world) grow(t *testing.T, back int) {
	at, _ := x.Chain.At(x.Chain.Height() - back)
	up := block.Id(at.Header)
	for range back + 1 {
		b := x.blockOf(up)
		if _, err := x.Chain.Accept(b); err == api.OK {
			x.known = append(x.known, b.Txs[0])
			up = block.Id(b.Header)
		}
	}
	if x.Intn(4) > 0 {
		x.Pool.Refresh(x.Chain)
	}
}

// step lets one thing happen.
func (x *world) step(t *testing.T) {
	t.Helper()
	one := x.known[x.Intn(len(x.known))]
	switch x.Intn(12) {
	case 0, 1, 2:
		made := x.invent(t)
		x.Pool.Add(x.Chain, made)
		if x.plain.mine(x.Ring, made) != x.Mine(x.View, made) {
			t.Errorf("Mine")
		}
		x.record(t, made)
	case 3, 4:
		x.record(t, x.invent(t))
	case 5:
		x.Pool.Add(x.Chain, one)
	case 6:
		x.grow(t, 0)
	case 7:
		x.grow(t, 1+x.Intn(2))
	case 8, 9:
		x.abandon(t, tx.Id(one), x.plain.clone().abandon(x.View, tx.Id(one)))
	case 10:
		x.lock(made(one, 0), x.Intn(3) > 0)
	case 11:
		n := x.plain.clone().scan(x.Chain, x.Ring.Clone(), 0)
		x.scan(t, 0, n)
		x.scan(t, 0, 0)
	}
}

// TestP22_2Random: whatever happens, a ledger is the same as a plain one, in states, coins and balances.
func TestP22_2Random(t *testing.T) {
	for seed := range int64(12) {
		x := newWorld(t, seed)
		for range 80 {
			x.step(t)
			x.expect(t, "after a step")
			if t.Failed() {
				t.Fatalf("seed %d", seed)
			}
		}
	}
}
