package node

import (
	"strongbox/api"
	"strongbox/spend"
	"strongbox/unpack"
)

// The kinds of operations.
const (
	Block = iota + 1
	Tx
	Desc
	Take
	Send
	Bump
	Abandon
	Rescan
	Lock
	Label
)

// What an operation can have at most if it is to be stored: bytes of Data, of Text, or in all Scripts together, and payments.
const (
	mostBytes = 60000
	mostPay   = 200
)

// Op is an operation. Fields that its Kind does not use are ignored.
type Op struct {
	Kind  int
	Data  []byte
	Text  string
	N     int
	On    bool
	Id    api.Hash
	Place api.OutPoint
	Rate  int64
	Order spend.Order
}

// Bytes returns an operation as bytes: its Kind, and what that uses.
func (o Op) Bytes() []byte {
	if !known(o.Kind) {
		return nil
	}
	var w writer
	w.U8(byte(o.Kind))
	o.fill(&w)
	if w.over {
		return nil
	}
	return w.Out()
}

// Read returns the operation that all bytes of b are.
func Read(b []byte) (Op, api.Errno) {
	return unpack.Whole(b, func(r unpack.Reader) Op {
		o := Op{Kind: int(r.U8())}
		r.Sure()
		if !known(o.Kind) {
			unpack.Fail(api.ErrForm)
		}
		o.fill(reader{r})
		return o
	})
}

func known(kind int) bool { return Block <= kind && kind <= Label }

// fields returns what each kind of operation uses, in the order in which it is stored.
func fields() [Label + 1][]func(*Op, form) {
	return [...][]func(*Op, form){
		Block:   {(*Op).data},
		Tx:      {(*Op).data},
		Desc:    {(*Op).text},
		Take:    {(*Op).number},
		Send:    {(*Op).order},
		Bump:    {(*Op).id, (*Op).rate},
		Abandon: {(*Op).id},
		Rescan:  {(*Op).number},
		Lock:    {(*Op).place, (*Op).on},
		Label:   {(*Op).data, (*Op).text},
	}
}

// fill lets a form go through all fields that the operation uses.
func (o *Op) fill(f form) {
	for _, field := range fields()[o.Kind] {
		field(o, f)
	}
}

func (o *Op) data(f form) { o.Data = f.part(o.Data, mostBytes) }

func (o *Op) text(f form) { o.Text = string(f.part([]byte(o.Text), mostBytes)) }

func (o *Op) number(f form) { o.N = number(f, o.N) }

func (o *Op) id(f form) { o.Id = api.Hash(f.raw(o.Id[:])) }

func (o *Op) rate(f form) { o.Rate = number(f, o.Rate) }

func (o *Op) on(f form) { o.On = truth(f, o.On) }

func (o *Op) place(f form) {
	o.Place.Hash = api.Hash(f.raw(o.Place.Hash[:]))
	o.Place.Index = number(f, o.Place.Index)
}

func (o *Op) order(f form) {
	// All Scripts together may have so many bytes.
	left := mostBytes
	o.Order.Pay = list(f, o.Order.Pay, mostPay, func(p api.TxOut) api.TxOut {
		p.Value = number(f, p.Value)
		p.Script = f.part(p.Script, left)
		left -= len(p.Script)
		return p
	})
	o.Order.Rate = number(f, o.Order.Rate)
	o.Order.Way = number(f, o.Order.Way)
	o.Order.Seed = number(f, o.Order.Seed)
	o.Order.Change = number(f, o.Order.Change)
}
