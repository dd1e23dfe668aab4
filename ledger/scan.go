package ledger

import (
	"slices"

	"strongbox/api"
)

// look is a ledger, and what it looks at.
type look struct {
	View
	own *Ledger
}

// Mine reports whether a transaction pays to the wallet, or spends what paid to it.
func (l *Ledger) Mine(v View, t api.Tx) bool { return look{v, l}.mine(t) }

// Scan records what is Mine of the best chain from a height on, and lets the Ring see what was paid to. It returns how many transactions were recorded.
func (l *Ledger) Scan(v View, from int) int {
	k := look{v, l}
	list := k.blocks(from)
	before := len(l.list)
	for again := true; again; {
		// Scripts that the Ring has only now may have been paid to earlier.
		again = k.pass(list)
	}
	return len(l.list) - before
}

func (k look) mine(t api.Tx) bool {
	return slices.ContainsFunc(t.Out, k.pays) || slices.ContainsFunc(t.In, k.spends)
}

// pays: has the Ring the script of an output?
func (k look) pays(o api.TxOut) bool {
	_, ok := k.Ring.Find(o.Script)
	return ok
}

// spends: has the Ring the script of the recorded output that an input spends?
func (k look) spends(in api.TxIn) bool {
	r, ok := k.own.source(in.Prev)
	return ok && k.pays(r.Out[in.Prev.Index])
}

// blocks returns those of the best chain from a height on. From each one to its parent is a short way, from a height to its block a long one.
func (k look) blocks(from int) []api.Block {
	var list []api.Block
	id := k.Chain.Tip()
	for range k.Chain.Height() - max(from, 0) + 1 {
		b, _ := k.Chain.Block(id)
		list = append(list, b)
		id = b.Prev
	}
	slices.Reverse(list)
	return list
}

// pass goes through all transactions of blocks once, and reports whether an end of the Ring has increased.
func (k look) pass(list []api.Block) bool {
	increased := false
	for _, b := range list {
		for _, t := range b.Txs {
			increased = k.saw(t) || increased
			if k.mine(t) {
				k.own.Add(t)
			}
		}
	}
	return increased
}

// saw lets the Ring see what a transaction pays to.
func (k look) saw(t api.Tx) bool {
	increased := false
	for _, o := range t.Out {
		increased = k.Ring.Saw(o.Script) || increased
	}
	return increased
}
