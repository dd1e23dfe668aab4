package ledger

import (
	"slices"

	"strongbox/api"
)

// The states of a transaction.
const (
	Unknown = iota
	Inactive
	Pooled
	Confirmed
	Conflicted
	Abandoned
)

// State returns the state of a transaction, and its depth if it is Confirmed.
func (l *Ledger) State(v View, id api.Hash) (int, int) {
	r, ok := l.records[id]
	if !ok {
		return Unknown, 0
	}
	return look{v, l}.state(r)
}

// Abandon marks a transaction as abandoned, and those that can't be confirmed without it.
func (l *Ledger) Abandon(v View, id api.Hash) api.Errno {
	r, ok := l.records[id]
	if !ok {
		return api.ErrNone
	}
	k := look{v, l}
	if !k.isInactive(r) {
		return api.ErrState
	}
	isIt := func(s *record) bool { return s.id == id }
	for _, d := range l.list {
		if slices.ContainsFunc(k.needed(d), isIt) && k.isInactive(d) {
			l.abandoned.put(d.id)
		}
	}
	return api.OK
}

func (k look) state(r *record) (int, int) {
	if height, ok := k.Chain.Where(r.id); ok {
		return Confirmed, k.Chain.Height() - height + 1
	}
	if slices.ContainsFunc(k.needed(r), k.conflicts) {
		return Conflicted, 0
	}
	if k.own.abandoned.has(r.id) {
		return Abandoned, 0
	}
	if _, ok := k.Pool.Get(r.id); ok {
		return Pooled, 0
	}
	return Inactive, 0
}

func (k look) isInactive(r *record) bool {
	state, _ := k.state(r)
	return state == Inactive
}

// conflicts: has the chain spent what a transaction, which it doesn't have, is to spend?
func (k look) conflicts(r *record) bool {
	return slices.ContainsFunc(r.In, func(in api.TxIn) bool {
		_, ok := k.Chain.Spender(in.Prev)
		return ok
	})
}

// needed returns a transaction, and all that it depends on if it isn't Confirmed. Each one is found once, however many ways lead to it.
func (k look) needed(r *record) []*record {
	list := []*record{r}
	found := set[api.Hash]{r.id: {}}
	for i := 0; i < len(list); i++ {
		for _, in := range list[i].In {
			s, ok := k.own.source(in.Prev)
			if !ok || found.has(s.id) {
				continue
			}
			found.put(s.id)
			if _, ok := k.Chain.Where(s.id); !ok {
				list = append(list, s)
			}
		}
	}
	return list
}
