package tree

import (
	"iter"
	"slices"

	"strongbox/api"
	"strongbox/block"
)

// medianSpan is the number of headers of whose Times the median is taken.
const medianSpan = 5

// node is a header at its position. It never changes, so that a tree and its copies can share it.
type node struct {
	api.Header
	id     api.Hash
	parent *node // nil for the first header
	height int
	work   block.Number
}

// child returns the node of a header that follows n.
func (n *node) child(h api.Header, id api.Hash) *node {
	return &node{Header: h, id: id, parent: n, height: n.height + 1, work: block.Add(n.work, block.Work(h.Bits))}
}

func (n *node) header() api.Header { return n.Header }

func (n *node) above() int { return n.height }

func (n *node) total() block.Number { return n.work }

// up goes from n, which may be nil, to the first header.
func (n *node) up() iter.Seq[*node] {
	return func(yield func(*node) bool) {
		for at := n; at != nil && yield(at); at = at.parent {
		}
	}
}

// at returns the node of a height on the way to n, or nil.
func (n *node) at(height int) *node {
	for a := range n.up() {
		if a.height == height {
			return a
		}
	}
	return nil
}

func (n *node) path() []api.Hash {
	ids := make([]api.Hash, n.height+1)
	for a := range n.up() {
		ids[a.height] = a.id
	}
	return ids
}

// expected returns the Bits of a child: at each eighth height they follow from how long the eight headers ahead took.
func (n *node) expected() uint32 {
	if (n.height+1)%api.Retarget != 0 {
		return n.Bits
	}
	begin := n.at(n.height - (api.Retarget - 1))
	return block.Next(n.Bits, int64(n.Time)-int64(begin.Time))
}

func (n *node) median() uint32 {
	var times []uint32
	for a := range n.up() {
		if len(times) == medianSpan {
			break
		}
		times = append(times, a.Time)
	}
	slices.Sort(times)
	return times[len(times)/2]
}
