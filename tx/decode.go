package tx

import (
	"strongbox/api"
	"strongbox/unpack"
)

// What Decode accepts at most.
const (
	maxCount = 25000  // inputs, outputs, or items of one input
	maxBytes = 100000 // in a script or an item
)

// Decode returns the transaction that all bytes of b encode.
func Decode(b []byte) (api.Tx, api.Errno) {
	if len(b) > api.MaxTx {
		return api.Tx{}, api.ErrSize
	}
	return unpack.Whole(b, func(r unpack.Reader) api.Tx { return reader{r}.tx() })
}

// reader reads the parts of a transaction.
type reader struct {
	unpack.Reader
}

func (r reader) tx() api.Tx {
	t := api.Tx{Version: int32(r.U32())}
	n := r.Count(maxCount)
	witness := n == 0
	if witness {
		r.mark()
		n = r.Count(maxCount)
	}
	t.In = unpack.List(r.Reader, n, r.input)
	t.Out = unpack.List(r.Reader, r.Count(maxCount), r.output)
	if witness {
		r.witnesses(t.In)
	}
	t.Lock = r.U32()
	r.Sure()
	if witness && !witnessed(t) {
		unpack.Fail(api.ErrForm)
	}
	return t
}

// mark reads the byte that says that witnesses follow.
func (r reader) mark() {
	mark := r.U8()
	r.Sure()
	if mark != second {
		unpack.Fail(api.ErrForm)
	}
}

func (r reader) input() api.TxIn {
	return api.TxIn{Prev: r.place(), Script: r.item(), Seq: r.U32()}
}

func (r reader) place() api.OutPoint {
	var p api.OutPoint
	copy(p.Hash[:], r.Raw(len(p.Hash)))
	p.Index = r.U32()
	return p
}

func (r reader) output() api.TxOut {
	return api.TxOut{Value: int64(r.U64()), Script: r.item()}
}

func (r reader) item() []byte { return r.Bytes(maxBytes) }

// witnesses reads the witness of each input.
func (r reader) witnesses(list []api.TxIn) {
	for i := range list {
		list[i].Witness = unpack.List(r.Reader, r.Count(maxCount), r.item)
	}
}
