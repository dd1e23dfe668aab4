package ledger_test

import (
	"bytes"
	"testing"

	"strongbox/api"
	"strongbox/coins"
	"strongbox/ledger"
	"strongbox/tx"
)

// spare returns bytes with spare capacity.
func spare(b []byte) []byte {
	return append(append(make([]byte, 0, len(b)+9), b...), "spare"...)[:len(b)]
}

// roomy returns a copy of a transaction with spare capacity everywhere.
func roomy(t api.Tx) api.Tx {
	t.In = append(make([]api.TxIn, 0, len(t.In)+1), t.In...)
	t.Out = append(make([]api.TxOut, 0, len(t.Out)+1), t.Out...)
	for i, in := range t.In {
		t.In[i].Script = spare(in.Script)
		t.In[i].Witness = append(make([][]byte, 0, len(in.Witness)+1), in.Witness...)
		for j, w := range in.Witness {
			t.In[i].Witness[j] = spare(w)
		}
	}
	for i, o := range t.Out {
		t.Out[i].Script = spare(o.Script)
	}
	return t
}

func bytesOf(t api.Tx) [][]byte {
	var list [][]byte
	for _, in := range t.In {
		list = append(append(list, in.Script), in.Witness...)
	}
	for _, o := range t.Out {
		list = append(list, o.Script)
	}
	return list
}

// expectUnchanged: a roomy transaction is as it was, with its spare capacity. It is overwritten then.
func expectUnchanged(t *testing.T, what string, given, want api.Tx) {
	t.Helper()
	for _, b := range bytesOf(given) {
		if !bytes.Equal(b[:len(b)+5][len(b):], []byte("spare")) {
			t.Errorf("%s changed the spare capacity of its argument", what)
		}
	}
	if !tx.Same(given, want) || given.In[:cap(given.In)][len(given.In)].Script != nil || given.Out[:cap(given.Out)][len(given.Out)].Script != nil {
		t.Errorf("%s changed its argument", what)
	}
	spoil(given)
}

// spoil overwrites all memory of a transaction.
func spoil(t api.Tx) {
	for _, b := range bytesOf(t) {
		spoilBytes(b)
	}
	for _, in := range t.In {
		clear(in.Witness[:cap(in.Witness)])
	}
	clear(t.In[:cap(t.In)])
	clear(t.Out[:cap(t.Out)])
}

func spoilBytes(b []byte) {
	for i := range b[:cap(b)] {
		b[:cap(b)][i] = 0xee
	}
}

func spoilCoins(list []coins.Entry) {
	for _, e := range list {
		spoilBytes(e.Coin.Out.Script)
	}
	clear(list[:cap(list)])
}

// TestP22_5Memory: no transaction that is passed or returned shares memory with the ledger or its copy, and no coin.
func TestP22_5Memory(t *testing.T) {
	w, first := rich(t)
	x := w.signed(t, pay(w.script(0, 1), unit-10000, 5), first, 0)
	given := roomy(x)
	w.plain.add(x)
	if !w.Mine(w.View, given) || !w.Add(given) || w.Add(given) {
		t.Fatalf("Add")
	}
	expectUnchanged(t, "Add", given, x)
	w.wait(t, x)
	before := w.Ledger.Clone()
	for _, l := range []*ledger.Ledger{w.Ledger, before} {
		for _, got := range l.List() {
			again, _ := l.Get(tx.Id(got))
			spoil(again)
			spoil(got)
		}
		clear(l.List())
		spoilCoins(l.Coins(w.View))
		spoilCoins(l.Spendable(w.View))
		script := spare(w.script(0, 0))
		l.Label(script, "rent")
		spoilBytes(script)
		if l.Labeled(w.script(0, 0)) != "rent" || l.Labeled(script) != "" {
			t.Errorf("Label keeps its argument")
		}
	}
	w.expectState(t, "the ledger", ledger.Pooled, x)
	w.Ledger = before
	w.expectState(t, "its copy", ledger.Pooled, x)
}

// TestP22_5Scanned: what Scan records does not share memory with the chain.
func TestP22_5Scanned(t *testing.T) {
	w, first := rich(t)
	for _, got := range w.List() {
		spoil(got)
	}
	b, _ := w.Chain.At(1)
	if !tx.Same(b.Txs[0], first) {
		t.Errorf("the chain changed")
	}
	spoil(b.Txs[0])
	if got, _ := w.Get(tx.Id(first)); !tx.Same(got, first) {
		t.Errorf("the ledger changed")
	}
}
