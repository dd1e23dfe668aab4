package spend

import (
	"strongbox/api"
	"strongbox/ledger"
	"strongbox/tx"
)

// Bump returns a recorded transaction with a greater fee, which its last output pays.
func Bump(l *ledger.Ledger, v ledger.View, id api.Hash, rate int64) (api.Tx, api.Errno) {
	w := wallet{l, v}
	t, spent, err := w.recorded(id)
	if err != api.OK {
		return api.Tx{}, err
	}
	last, ok := w.last(t)
	if !ok {
		return api.Tx{}, api.ErrFunds
	}
	if rate < leastRate {
		return api.Tx{}, api.ErrFee
	}
	signed, able := w.sign(t, spent)
	size := tx.Virtual(signed)
	fee, err := feeOf(rate, size)
	if err != api.OK {
		return api.Tx{}, err
	}
	if !able {
		return api.Tx{}, api.ErrLocked
	}
	// Where there is a fee for the rate, there is one for the least rate.
	more, _ := feeOf(leastRate, size)
	// A value below 0 is too little as it is.
	last.Value = min(left(spent, t.Out[:len(t.Out)-1], fee), max(last.Value, 0)-more)
	if isDust(*last) {
		return api.Tx{}, api.ErrFunds
	}
	signed, _ = w.sign(t, spent)
	return signed, api.OK
}

// recorded returns a transaction that may still be confirmed, and the outputs that it spends.
func (w wallet) recorded(id api.Hash) (api.Tx, []api.TxOut, api.Errno) {
	t, ok := w.Get(id)
	if !ok {
		return api.Tx{}, nil, api.ErrNone
	}
	if state, _ := w.State(w.View, id); state != ledger.Pooled && state != ledger.Inactive {
		return api.Tx{}, nil, api.ErrState
	}
	var spent []api.TxOut
	for _, in := range t.In {
		coin, ok := w.Chain.Coin(in.Prev)
		if !ok {
			return api.Tx{}, nil, api.ErrSpent
		}
		spent = append(spent, coin.Out)
	}
	return t, spent, api.OK
}

// last returns the last output of a transaction, if it belongs to the wallet and another one is ahead of it.
func (w wallet) last(t api.Tx) (*api.TxOut, bool) {
	n := len(t.Out)
	if n < 2 {
		return nil, false
	}
	last := &t.Out[n-1]
	_, ok := w.Ring.Find(last.Script)
	return last, ok
}
