package chain

import (
	"iter"
	"slices"

	"strongbox/api"
	"strongbox/block"
	"strongbox/tx"
)

// stored is a block at its height, with its Id and those of its transactions. It never changes and is never handed out, so that a chain and its copies can share it.
type stored struct {
	api.Block
	id     api.Hash
	ids    []api.Hash
	height int
}

func store(b api.Block, height int) *stored {
	s := &stored{Block: clone(b), id: block.Id(b.Header), height: height}
	for _, t := range s.Txs {
		s.ids = append(s.ids, tx.Id(t))
	}
	return s
}

func clone(b api.Block) api.Block {
	var list []api.Tx
	for _, t := range b.Txs {
		list = append(list, tx.Clone(t))
	}
	b.Txs = list
	return b
}

// spender returns the last transaction of the block that spends a place.
func (s *stored) spender(p api.OutPoint) (api.Hash, bool) {
	spends := func(in api.TxIn) bool { return in.Prev == p }
	for i, t := range slices.Backward(s.Txs) {
		if slices.ContainsFunc(t.In, spends) {
			return s.ids[i], true
		}
	}
	return api.Hash{}, false
}

// down goes from a block to the first one.
func (c *Chain) down(from *stored) iter.Seq[*stored] {
	return func(yield func(*stored) bool) {
		for at := from; at != nil && yield(at); at = c.blocks[at.Prev] {
		}
	}
}

// beyond returns the blocks from one of them down to a block that is on the way to it, without that one.
func (c *Chain) beyond(from *stored, fork api.Hash) []*stored {
	var list []*stored
	for s := range c.down(from) {
		if s.id == fork {
			break
		}
		list = append(list, s)
	}
	return list
}
