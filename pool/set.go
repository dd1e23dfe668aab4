package pool

import (
	"slices"

	"strongbox/api"
)

// set is Ids of transactions.
type set map[api.Hash]struct{}

func setOf(ids ...api.Hash) set {
	s := set{}
	for _, id := range ids {
		s[id] = struct{}{}
	}
	return s
}

func (s set) has(id api.Hash) bool {
	_, ok := s[id]
	return ok
}

// behind returns these Ids, and those of all entries that spend an output of one of them, directly or through others. An entry may be ahead of what it spends, if the chain changed without a Refresh, so that the list is searched until nothing more is found.
func behind(list []Entry, ids ...api.Hash) set {
	s := setOf(ids...)
	follows := func(in api.TxIn) bool { return s.has(in.Prev.Hash) }
	for before := -1; before < len(s); {
		before = len(s)
		for _, e := range list {
			if slices.ContainsFunc(e.Tx.In, follows) {
				s[e.Id] = struct{}{}
			}
		}
	}
	return s
}

// split returns the entries that a set has, and the others, in new lists.
func split(list []Entry, s set) ([]Entry, []Entry) {
	var in, out []Entry
	for _, e := range list {
		if s.has(e.Id) {
			in = append(in, e)
		} else {
			out = append(out, e)
		}
	}
	return in, out
}

func idsOf(list []Entry) []api.Hash {
	var ids []api.Hash
	for _, e := range list {
		ids = append(ids, e.Id)
	}
	return ids
}
