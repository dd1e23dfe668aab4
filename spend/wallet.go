package spend

import (
	"math"
	"slices"

	"strongbox/amount"
	"strongbox/api"
	"strongbox/check"
	"strongbox/ledger"
	"strongbox/wire"
)

// wallet is a ledger, and what it looks at.
type wallet struct {
	*ledger.Ledger
	ledger.View
}

// sign returns a transaction with what the wallet can make for its inputs to spend these outputs, and whether that suffices for all of them.
func (w wallet) sign(t api.Tx, outs []api.TxOut) (api.Tx, bool) {
	t.In = slices.Clone(t.In)
	all := true
	for i, out := range outs {
		in, ok := check.Spend(t, i, out, w.Ring.Inner(out.Script), w.Ring)
		t.In[i] = in
		// A script that is too long to be pushed is signed nevertheless, but that spends nothing.
		all = all && ok && check.Input(t, i, out) == api.OK
	}
	return t, all
}

// inputSize returns the virtual bytes of an input, which has the count of its Witness even if there is none.
func inputSize(in api.TxIn) int {
	const place, seq = 36, 4
	weight := 4*(place+withLength(in.Script)+seq) + wire.Length(uint64(len(in.Witness)))
	for _, item := range in.Witness {
		weight += withLength(item)
	}
	return (weight + 3) / 4
}

func withLength(b []byte) int { return wire.Length(uint64(len(b))) + len(b) }

// bytesOf returns the bytes of an output with this script.
func bytesOf(script []byte) int {
	const short, long = 9, 11
	if len(script) < 253 {
		return short + len(script)
	}
	return long + len(script)
}

// dust returns the least value of an output with this script.
func dust(script []byte) int64 { return amount.Dust(bytesOf(script)) }

func isDust(o api.TxOut) bool { return o.Value < dust(o.Script) }

func values(list []api.TxOut) []int64 {
	var all []int64
	for _, o := range list {
		all = append(all, o.Value)
	}
	return all
}

// left returns what coins leave beyond some outputs and a fee, limited to an int64: a recorded transaction may have any values. Both halves of the numbers are summed up apart, so that neither sum wraps around.
func left(spent, paid []api.TxOut, fee int64) int64 {
	high, low := int64(0), -fee
	for _, v := range values(spent) {
		high += v >> 32
		low += v & math.MaxUint32
	}
	for _, v := range values(paid) {
		high -= v >> 32
		low -= v & math.MaxUint32
	}
	high += low >> 32
	switch {
	case high > math.MaxInt32:
		return math.MaxInt64
	case high < math.MinInt32:
		return math.MinInt64
	}
	return high<<32 | low&math.MaxUint32
}
