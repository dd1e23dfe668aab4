package ledger

import (
	"slices"

	"strongbox/api"
	"strongbox/coins"
	"strongbox/pool"
)

// Balance is what the wallet's coins are worth that can be spent, that are too young for it, and that wait for a block.
type Balance struct {
	Ready, Young, Pending int64
}

// Coins returns the coins of the chain that belong to the wallet.
func (l *Ledger) Coins(v View) []coins.Entry { return look{v, l}.coins() }

// Spendable returns those of the Coins that can be spent, and that nothing else is to spend.
func (l *Ledger) Spendable(v View) []coins.Entry {
	k := look{v, l}
	taken := k.taken()
	return slices.DeleteFunc(k.coins(), func(e coins.Entry) bool {
		return !k.ripe(e.Coin) || taken.has(e.Place) || l.Locked(e.Place)
	})
}

// Balance returns what the wallet's coins are worth.
func (l *Ledger) Balance(v View) Balance {
	k := look{v, l}
	var b Balance
	for _, e := range k.coins() {
		if k.ripe(e.Coin) {
			b.Ready += e.Coin.Out.Value
		} else {
			b.Young += e.Coin.Out.Value
		}
	}
	for _, e := range k.Pool.List() {
		if state, _ := l.State(v, e.Id); state == Pooled {
			b.Pending += k.pending(e)
		}
	}
	return b
}

func (k look) coins() []coins.Entry {
	return slices.DeleteFunc(k.Chain.Coins(), func(e coins.Entry) bool { return !k.pays(e.Coin.Out) })
}

// ripe: is a coin old enough for the next block to spend it?
func (k look) ripe(c coins.Coin) bool {
	return !c.Fresh || c.Height <= k.Chain.Height()+1-api.Maturity
}

// taken returns the places of coins that the Pool spends, or a recorded transaction that may still be confirmed.
func (k look) taken() set[api.OutPoint] {
	places := set[api.OutPoint]{}
	take := func(t api.Tx) {
		for _, in := range t.In {
			places.put(in.Prev)
		}
	}
	for _, e := range k.Pool.List() {
		take(e.Tx)
	}
	// Of what may still be confirmed, the Pool has all that isn't Inactive. The whole chain must be searched for a state, but not for a coin.
	for _, r := range k.own.list {
		if slices.ContainsFunc(r.In, k.spendsCoin) && k.isInactive(r) {
			take(r.Tx)
		}
	}
	return places
}

func (k look) spendsCoin(in api.TxIn) bool {
	_, ok := k.Chain.Coin(in.Prev)
	return ok
}

// pending returns what a waiting transaction pays to the wallet, as far as no other one spends it.
func (k look) pending(e pool.Entry) int64 {
	sum := int64(0)
	for i, o := range e.Tx.Out {
		if _, spent := k.Pool.Spender(api.OutPoint{Hash: e.Id, Index: uint32(i)}); !spent && k.pays(o) {
			sum += o.Value
		}
	}
	return sum
}
