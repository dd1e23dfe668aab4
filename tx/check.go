package tx

import (
	"math"
	"slices"

	"strongbox/amount"
	"strongbox/api"
)

const (
	// timeLock is the least Lock that is a time; a lesser one is a height.
	timeLock = 500000000
	// done is the Seq of an input that does not wait for the Lock.
	done = math.MaxUint32
	// How many bytes a coinbase's Script has.
	minCoinbase, maxCoinbase = 2, 100
)

// Check returns the first error that can be seen in a transaction on its own.
func Check(t api.Tx) api.Errno {
	switch {
	case len(t.In) == 0 || len(t.Out) == 0:
		return api.ErrForm
	case bareSize(t) > api.MaxTx:
		return api.ErrSize
	case !payable(t.Out):
		return api.ErrRange
	case !distinct(t.In):
		return api.ErrClash
	case Coinbase(t):
		return checkCoinbase(t.In[0].Script)
	case slices.ContainsFunc(t.In, spendsNothing):
		return api.ErrNone
	}
	return api.OK
}

// Coinbase: does a transaction spend nothing, as the one does that makes new coins?
func Coinbase(t api.Tx) bool { return len(t.In) == 1 && spendsNothing(t.In[0]) }

// Final: may a transaction be in a block of this height, after this time?
func Final(t api.Tx, height int, time uint32) bool {
	switch {
	case t.Lock == 0:
		return true
	case t.Lock < timeLock && int64(t.Lock) < int64(height):
		return true
	case t.Lock >= timeLock && t.Lock < time:
		return true
	}
	return !slices.ContainsFunc(t.In, func(in api.TxIn) bool { return in.Seq != done })
}

// spendsNothing: is the place that an input names the empty one?
func spendsNothing(in api.TxIn) bool {
	return in.Prev == api.OutPoint{Index: math.MaxUint32}
}

// payable: are all values, and their sum, valid?
func payable(list []api.TxOut) bool {
	var values []int64
	for _, out := range list {
		values = append(values, out.Value)
	}
	_, err := amount.Add(values...)
	return err == api.OK
}

// distinct: does each input name another place?
func distinct(list []api.TxIn) bool {
	places := map[api.OutPoint]struct{}{}
	for _, in := range list {
		places[in.Prev] = struct{}{}
	}
	return len(places) == len(list)
}

func checkCoinbase(script []byte) api.Errno {
	if len(script) < minCoinbase || len(script) > maxCoinbase {
		return api.ErrForm
	}
	return api.OK
}
