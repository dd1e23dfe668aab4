package psbt

import (
	"strongbox/api"
	"strongbox/tx"
	"strongbox/unpack"
	"strongbox/wire"
)

// mark is what a packet begins with as bytes, so that other things are not taken for one.
const mark = "psbt\xff"

// What Decode accepts at most, beside the bytes of the transaction.
const (
	maxPart = 10000 // bytes in a part of an In
	maxList = 1000  // elements in a list of a packet or an In
)

// Encode returns a packet as bytes: the mark, the transaction, and each of the Ins.
func (p Packet) Encode() []byte {
	if !p.valid() {
		return nil
	}
	var w wire.Writer
	w.Raw([]byte(mark)...)
	w.Bytes(tx.Encode(p.Tx, false))
	for _, in := range p.Ins {
		write(&w, in)
	}
	return w.Out()
}

func write(w *wire.Writer, in In) {
	writeTruth(w, in.Known)
	w.U64(uint64(in.Out.Value))
	w.Bytes(in.Out.Script)
	writeList(w, in.Inner)
	w.Size(uint64(len(in.Sigs)))
	for _, s := range in.Sigs {
		w.Bytes(s.Pub)
		w.Bytes(s.Sig)
	}
	writeTruth(w, in.Final)
	w.Bytes(in.Script)
	writeList(w, in.Witness)
}

func writeTruth(w *wire.Writer, holds bool) {
	if holds {
		w.U8(1)
	} else {
		w.U8(0)
	}
}

func writeList(w *wire.Writer, list [][]byte) {
	w.Size(uint64(len(list)))
	for _, b := range list {
		w.Bytes(b)
	}
}

// Decode returns the packet that all bytes of b encode.
func Decode(b []byte) (Packet, api.Errno) {
	return unpack.Whole(b, func(r unpack.Reader) Packet { return reader{r}.packet() })
}

// reader reads the parts of a packet.
type reader struct {
	unpack.Reader
}

func (r reader) packet() Packet {
	r.mark()
	t := r.tx()
	p := Packet{Tx: t, Ins: unpack.List(r.Reader, len(t.In), r.in)}
	if !p.valid() {
		unpack.Fail(api.ErrForm)
	}
	return p
}

func (r reader) mark() {
	b := r.Raw(len(mark))
	r.Sure()
	if string(b) != mark {
		unpack.Fail(api.ErrForm)
	}
}

func (r reader) tx() api.Tx {
	b := r.Bytes(api.MaxTx)
	r.Sure()
	t, err := tx.Decode(b)
	if err != api.OK {
		unpack.Fail(err)
	}
	if len(t.In) > maxList {
		unpack.Fail(api.ErrSize)
	}
	return t
}

func (r reader) in() In {
	return In{
		Known:   r.truth(),
		Out:     api.TxOut{Value: int64(r.U64()), Script: r.part()},
		Inner:   r.list(),
		Sigs:    unpack.List(r.Reader, r.Count(maxList), r.sig),
		Final:   r.truth(),
		Script:  r.part(),
		Witness: r.list(),
	}
}

func (r reader) truth() bool {
	b := r.U8()
	if b > 1 {
		unpack.Fail(api.ErrForm)
	}
	return b == 1
}

func (r reader) part() []byte { return r.Bytes(maxPart) }

func (r reader) list() [][]byte { return unpack.List(r.Reader, r.Count(maxList), r.part) }

func (r reader) sig() Sig { return Sig{Pub: r.part(), Sig: r.part()} }
