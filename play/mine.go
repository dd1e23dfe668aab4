package play

import (
	"math"

	"strongbox/api"
	"strongbox/block"
	"strongbox/node"
)

const later = 600 // seconds after the median

// mine receives a block that follows the best one, or one below it.
func (p *player) mine(s Step) api.Errno {
	_, err := p.first(byte(s.A))
	return err
}

// fork receives a block that follows the one below the best one, and perhaps others behind it.
func (p *player) fork(s Step) api.Errno {
	mark := byte(s.A)*4 + 1
	up, err := p.first(mark)
	for range s.A % 3 {
		if err != api.OK {
			return err
		}
		mark++
		up, err = p.receive(p.behind(up, mark))
	}
	return err
}

// first receives the block that a mark asks for, and returns its Id.
func (p *player) first(mark byte) (api.Hash, api.Errno) {
	back := min(int(mark%4), p.Height())
	if back == 0 {
		return p.receive(p.Block())
	}
	up, _ := p.Tree().At(p.Tip(), p.Height()-back)
	return p.receive(p.behind(up, mark))
}

func (p *player) receive(b api.Block) (api.Hash, api.Errno) {
	return block.Id(b.Header), p.do(node.Op{Kind: node.Block, Data: block.Encode(b)})
}

// behind returns a block that follows another one. Its mark tells it apart from others that do.
func (p *player) behind(up api.Hash, mark byte) api.Block {
	x := p.Tree()
	b := api.Block{
		Header: api.Header{Version: 1, Prev: up, Time: x.Median(up) + later, Bits: x.Expected(up)},
		Txs:    []api.Tx{p.coinbase(x.Height(up)+1, mark)},
	}
	b.Merkle = block.Root(b)
	for b.Nonce < math.MaxUint32 && !block.Proved(b.Header) {
		b.Nonce++
	}
	return b
}

func (p *player) coinbase(height int, mark byte) api.Tx {
	return api.Tx{
		Version: 1,
		In: []api.TxIn{{
			Prev:   api.OutPoint{Index: math.MaxUint32},
			Script: []byte{2, byte(height), byte(height >> 8), mark},
		}},
		Out: []api.TxOut{{Value: block.Subsidy(height), Script: payee(int(mark), p.Scripts())}},
	}
}
