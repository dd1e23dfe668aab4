package spend

import (
	"strongbox/amount"
	"strongbox/api"
	"strongbox/choose"
	"strongbox/coins"
	"strongbox/tx"
)

const (
	version  = 2
	sequence = 1<<32 - 3
	frame    = 13 // bytes of a transaction beside its inputs and outputs, at most
	tries    = 10000
)

// payment is an order that a wallet carries out, and the script that gets the change.
type payment struct {
	wallet
	Order
	change []byte
}

// choose returns the coins that are selected for the payment.
func (p payment) choose() ([]coins.Entry, api.Errno) {
	need, err := p.need()
	if err != api.OK {
		return nil, err
	}
	task := choose.Task{Need: need, Extra: dust(p.change), Rate: p.Rate, Tries: tries, Seed: p.Seed}
	sources, list := p.sources()
	chosen, err := ways()[p.Way](list, task)
	if err != api.OK {
		return nil, err
	}
	var spent []coins.Entry
	for _, i := range chosen {
		spent = append(spent, sources[i])
	}
	return spent, api.OK
}

// need returns what the selected coins must be worth: what is paid, and the fee for all but the inputs.
func (p payment) need() (int64, api.Errno) {
	size := frame + bytesOf(p.change)
	sum := int64(0)
	for _, o := range p.Pay {
		size += bytesOf(o.Script)
		sum += o.Value
	}
	fee, err := feeOf(p.Rate, size)
	return sum + fee, err
}

// sources returns the coins that the wallet can sign for, and the same as what is selected from.
func (p payment) sources() ([]coins.Entry, []choose.Coin) {
	var sources []coins.Entry
	var list []choose.Coin
	for _, e := range p.Spendable(p.View) {
		alone, ok := p.sign(api.Tx{In: []api.TxIn{input(e.Place)}}, []api.TxOut{e.Coin.Out})
		if ok {
			sources = append(sources, e)
			list = append(list, choose.Coin{Value: e.Coin.Out.Value, Size: inputSize(alone.In[0])})
		}
	}
	return sources, list
}

// transaction returns what spends these coins. Only when it is signed its size tells what remains for the change.
func (p payment) transaction(spent []coins.Entry) (api.Tx, api.Errno) {
	t := api.Tx{Version: version, Out: tx.Clone(api.Tx{Out: p.Pay}).Out}
	var outs []api.TxOut
	for _, e := range spent {
		t.In = append(t.In, input(e.Place))
		outs = append(outs, e.Coin.Out)
	}
	changed := t
	changed.Out = append(t.Out, api.TxOut{Script: p.change})
	signed, _ := p.sign(changed, outs)
	fee, err := feeOf(p.Rate, tx.Virtual(signed))
	if err != api.OK {
		return api.Tx{}, err
	}
	if rest := left(outs, t.Out, fee); rest >= dust(p.change) {
		changed.Out[len(t.Out)].Value = rest
		t = changed
	}
	signed, _ = p.sign(t, outs)
	return signed, api.OK
}

func input(at api.OutPoint) api.TxIn { return api.TxIn{Prev: at, Seq: sequence} }

// feeOf returns the fee for a rate and a size.
func feeOf(rate int64, size int) (int64, api.Errno) {
	fee, err := amount.Fee(rate, size)
	if err != api.OK {
		return 0, api.ErrFee
	}
	return fee, api.OK
}
