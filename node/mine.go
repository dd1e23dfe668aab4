package node

import (
	"math"

	"strongbox/api"
	"strongbox/block"
)

const (
	mostNonce = 100000
	later     = 600 // seconds after the median
)

// Block returns a block that could follow the best one.
func (n *Node) Block() api.Block {
	x, tip := n.Tree(), n.Tip()
	reward := block.Subsidy(n.Height() + 1)
	var list []api.Tx
	for _, e := range n.Waits() {
		reward += e.Fee
		list = append(list, e.Tx)
	}
	b := api.Block{
		Header: api.Header{Version: 1, Prev: tip, Time: x.Median(tip) + later, Bits: x.Expected(tip)},
		Txs:    append([]api.Tx{n.coinbase(reward)}, list...),
	}
	b.Merkle = block.Root(b)
	for b.Nonce < mostNonce && !block.Proved(b.Header) {
		b.Nonce++
	}
	return b
}

// coinbase returns the first transaction of the next block.
func (n *Node) coinbase(reward int64) api.Tx {
	script := []byte{0x51} // to everybody
	if own := n.Scripts(); len(own) > 0 {
		script = own[0]
	}
	height := n.Height() + 1
	return api.Tx{
		Version: 1,
		In: []api.TxIn{{
			Prev:   api.OutPoint{Index: math.MaxUint32},
			Script: []byte{2, byte(height), byte(height >> 8)},
		}},
		Out: []api.TxOut{{Value: reward, Script: script}},
	}
}
