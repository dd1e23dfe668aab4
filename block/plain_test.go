package block_test

import (
	"math/big"
	"testing"

	"strongbox/api"
	"strongbox/block"
	"strongbox/tx"
	"strongbox/wire"
)

// fill returns n bytes that tell the places of a list apart.
func fill(n int, seed byte) []byte {
	b := make([]byte, n)
	for i := range b {
		b[i] = seed + byte(i*7)
	}
	return b
}

// digest returns a digest all of whose bytes differ.
func digest(seed byte) api.Hash { return api.Hash(fill(32, seed)) }

// coinbase returns one that is told from others by a number.
func coinbase(n byte) api.Tx {
	return api.Tx{In: []api.TxIn{{Prev: api.OutPoint{Index: 1<<32 - 1}, Script: []byte{n, n}}}, Out: []api.TxOut{{Value: 50}}}
}

// payment returns a transaction that is told from others by a number.
func payment(n int) api.Tx {
	return api.Tx{Version: 1, In: []api.TxIn{{Prev: api.OutPoint{Hash: digest(3), Index: uint32(n)}}}, Out: []api.TxOut{{Value: int64(n)}}}
}

// blockOf returns a block with a header all of whose parts differ.
func blockOf(list ...api.Tx) api.Block {
	h := api.Header{Version: -2, Prev: digest(1), Merkle: digest(2), Time: 0x81020304, Bits: 0x91121314, Nonce: 0xa1222324}
	return api.Block{Header: h, Txs: list}
}

// sized returns a payment of so many bytes, as long as its Script has a size of as many bytes as n has.
func sized(n int) api.Tx {
	t := payment(n)
	t.Out[0].Script = make([]byte, n-tx.Size(t)-wire.Length(uint64(n))+1)
	return t
}

func sameBlocks(a, b api.Block) bool {
	if a.Header != b.Header || len(a.Txs) != len(b.Txs) {
		return false
	}
	for i := range a.Txs {
		if !tx.Same(a.Txs[i], b.Txs[i]) {
			return false
		}
	}
	return true
}

// mined returns the block with the first Nonce that makes it Proved, or not Proved.
func mined(t *testing.T, b api.Block, proved bool) api.Block {
	t.Helper()
	for b.Nonce = 0; b.Nonce < 1000; b.Nonce++ {
		if block.Proved(b.Header) == proved {
			return b
		}
	}
	t.Fatal("no such Nonce")
	return b
}

// number returns a big number as 32 bytes.
func number(n *big.Int) (out block.Number) {
	n.FillBytes(out[:])
	return out
}

// value returns a number for package big to reckon with.
func value(n block.Number) *big.Int { return new(big.Int).SetBytes(n[:]) }

// power returns 2 to a power.
func power(n uint) *big.Int { return new(big.Int).Lsh(big.NewInt(1), n) }

// ones returns the number with so many bits, all of which are set.
func ones(n uint) *big.Int { return new(big.Int).Sub(power(n), big.NewInt(1)) }

// modelLimit is the target of PowLimit.
func modelLimit() *big.Int { return new(big.Int).Lsh(big.NewInt(0x7fffff), 8*29) }

// modelTarget is Target as the document says it, nil where that returns an error.
func modelTarget(bits uint32) *big.Int {
	e, m := uint(bits>>24), int64(bits&0xffffff)
	n := new(big.Int).Lsh(big.NewInt(m), 8*e)
	n.Rsh(n, 24)
	if m >= 1<<23 || n.Sign() == 0 || n.Cmp(modelLimit()) > 0 {
		return nil
	}
	return n
}

// modelBits is Bits as the document says it.
func modelBits(n *big.Int) uint32 {
	e := uint(n.BitLen()+7) / 8
	m := new(big.Int).Lsh(n, 24)
	m.Rsh(m, 8*e)
	if m.Int64() >= 1<<23 {
		m.Rsh(m, 8)
		e++
	}
	return uint32(e)<<24 | uint32(m.Int64())
}

// modelNext is Next as the document says it.
func modelNext(bits uint32, span int64) uint32 {
	n := modelTarget(bits)
	if n == nil {
		return 0x207fffff
	}
	span = max(1200, min(19200, span))
	n.Mul(n, big.NewInt(span))
	n.Div(n, big.NewInt(4800))
	if n.Cmp(modelLimit()) > 0 {
		n = modelLimit()
	}
	if n.Sign() == 0 {
		n = big.NewInt(1)
	}
	return modelBits(n)
}

// modelWork is Work as the document says it.
func modelWork(bits uint32) *big.Int {
	n := modelTarget(bits)
	if n == nil {
		return new(big.Int)
	}
	return new(big.Int).Div(power(256), n.Add(n, big.NewInt(1)))
}
