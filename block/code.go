package block

import (
	"strongbox/api"
	"strongbox/tx"
	"strongbox/unpack"
	"strongbox/wire"
)

// maxTxs is how many transactions Decode accepts at most.
const maxTxs = 10000

// EncodeHeader returns a header as 80 bytes.
func EncodeHeader(h api.Header) []byte {
	var w wire.Writer
	w.U32(uint32(h.Version))
	w.Raw(h.Prev[:]...)
	w.Raw(h.Merkle[:]...)
	w.U32(h.Time)
	w.U32(h.Bits)
	w.U32(h.Nonce)
	return w.Out()
}

// DecodeHeader returns the header that all bytes of b encode.
func DecodeHeader(b []byte) (api.Header, api.Errno) {
	return unpack.Whole(b, func(r unpack.Reader) api.Header { return reader{r}.header() })
}

// Encode returns a block as bytes.
func Encode(b api.Block) []byte {
	var w wire.Writer
	w.Raw(EncodeHeader(b.Header)...)
	w.Size(uint64(len(b.Txs)))
	for _, t := range b.Txs {
		w.Bytes(tx.Encode(t, true))
	}
	return w.Out()
}

// Decode returns the block that all bytes of b encode.
func Decode(b []byte) (api.Block, api.Errno) {
	if len(b) > api.MaxBlock {
		return api.Block{}, api.ErrSize
	}
	return unpack.Whole(b, func(r unpack.Reader) api.Block { return reader{r}.block() })
}

// reader reads the parts of a block.
type reader struct {
	unpack.Reader
}

func (r reader) block() api.Block {
	b := api.Block{Header: r.header()}
	b.Txs = unpack.List(r.Reader, r.Count(maxTxs), r.tx)
	return b
}

// header leaves it to whoever reads on, or to the end, to see that bytes are missing.
func (r reader) header() api.Header {
	return api.Header{Version: int32(r.U32()), Prev: r.hash(), Merkle: r.hash(), Time: r.U32(), Bits: r.U32(), Nonce: r.U32()}
}

func (r reader) hash() (h api.Hash) {
	copy(h[:], r.Raw(len(h)))
	return h
}

func (r reader) tx() api.Tx {
	b := r.Bytes(api.MaxTx)
	r.Sure()
	t, err := tx.Decode(b)
	if err != api.OK {
		unpack.Fail(err)
	}
	return t
}
