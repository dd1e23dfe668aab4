package chain

import (
	"slices"

	"strongbox/api"
	"strongbox/block"
)

// Change is the blocks that were disconnected, downwards, and those that were connected, upwards.
type Change struct {
	Off, On []api.Block
}

// Accept adds a block, and leads the chain to the block that is the best one then.
func (c *Chain) Accept(b api.Block) (Change, api.Errno) {
	if err := block.Check(b); err != api.OK {
		return Change{}, err
	}
	if err := c.tree.Add(b.Header); err != api.OK {
		return Change{}, err
	}
	s := store(b, c.tree.Height(b.Prev)+1)
	c.blocks[s.id] = s
	former := c.tip
	if err := c.settle(s.id); err != api.OK {
		return Change{}, err
	}
	return c.between(former, c.tip), api.OK
}

// settle leads the chain to the tip of the tree, and bans what can't be connected. It returns the error because of which the block that was added last is banned.
func (c *Chain) settle(added api.Hash) api.Errno {
	why := api.ErrState
	for c.Tip() != c.tree.Tip() {
		failed, err := c.walk(c.tree.Tip())
		if err != api.OK {
			c.tree.Ban(failed)
		}
		if failed == added {
			why = err
		}
	}
	if c.tree.Banned(added) {
		return why
	}
	return api.OK
}

// walk leads the chain to a block, or to the parent of the first one that can't be connected, which it returns with the error.
func (c *Chain) walk(goal api.Hash) (api.Hash, api.Errno) {
	fork, _ := c.tree.Fork(c.Tip(), goal)
	for _, s := range c.beyond(c.tip, fork) {
		c.disconnect(s)
	}
	for _, s := range slices.Backward(c.beyond(c.blocks[goal], fork)) {
		if err := c.connect(s); err != api.OK {
			return s.id, err
		}
	}
	return api.Hash{}, api.OK
}

func (c *Chain) connect(s *stored) api.Errno {
	u, err := c.coins.Connect(s.Block, s.height, c.tree.Median(s.Prev))
	if err != api.OK {
		return err
	}
	c.undos[s.id] = u
	c.tip = s
	return api.OK
}

// disconnect undoes connect, after which there was no other change.
func (c *Chain) disconnect(s *stored) {
	c.coins.Disconnect(s.Block, c.undos[s.id])
	delete(c.undos, s.id)
	c.tip = c.blocks[s.Prev]
}

// between returns what leads from one block to another one.
func (c *Chain) between(former, latter *stored) Change {
	fork, _ := c.tree.Fork(former.id, latter.id)
	var x Change
	for _, s := range c.beyond(former, fork) {
		x.Off = append(x.Off, clone(s.Block))
	}
	for _, s := range slices.Backward(c.beyond(latter, fork)) {
		x.On = append(x.On, clone(s.Block))
	}
	return x
}
