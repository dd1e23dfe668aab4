package ring

import (
	"cmp"
	"iter"

	"strongbox/desc"
)

// held is a descriptor with what the ring has of it. What was derived never changes and is never handed out, so that a ring and its copies can share it.
type held struct {
	*desc.Desc
	text    string
	next    int
	derived []desc.Derived // for each index below the end, without a Script where the descriptor has nothing
}

// end returns the index up to which a ring with this gap has scripts of the descriptor.
func (h held) end(gap int) int {
	if !h.Ranged() {
		return 1
	}
	return min(h.next+gap, MaxIndex)
}

func (h held) same(other held) bool { return h.text == other.text && h.next == other.next }

// has: is there a descriptor with this number?
func (r *Ring) has(n int) bool { return 0 <= n && n < len(r.descs) }

// reach lets the next index of a descriptor be at least this one, and reports whether its end has increased.
func (r *Ring) reach(n, next int) bool {
	h := &r.descs[n]
	if h.Ranged() {
		h.next = max(h.next, next)
	}
	before := len(h.derived)
	for i := before; i < h.end(r.gap); i++ {
		x, _ := h.At(uint32(i))
		h.derived = append(h.derived, x)
		r.note(x.Script, Place{n, uint32(i)})
	}
	return len(h.derived) > before
}

// note keeps the place of a script if it is the first one. A descriptor may have a script long after a later one has it.
func (r *Ring) note(script []byte, p Place) {
	if script == nil {
		return
	}
	if q, ok := r.Find(script); !ok || p.before(q) {
		r.first[string(script)] = p
	}
}

func (p Place) before(q Place) bool {
	return cmp.Or(cmp.Compare(p.Desc, q.Desc), cmp.Compare(p.Index, q.Index)) < 0
}

// all goes through what the ring has, by places.
func (r *Ring) all() iter.Seq2[Place, desc.Derived] {
	return func(yield func(Place, desc.Derived) bool) {
		for n, h := range r.descs {
			for i, x := range h.derived {
				if x.Script != nil && !yield(Place{n, uint32(i)}, x) {
					return
				}
			}
		}
	}
}
