package ledger

// set is Ids or places.
type set[T comparable] map[T]struct{}

func (s set[T]) put(x T) { s[x] = struct{}{} }

func (s set[T]) has(x T) bool {
	_, ok := s[x]
	return ok
}
