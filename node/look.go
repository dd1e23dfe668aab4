package node

import (
	"strongbox/api"
	"strongbox/coins"
	"strongbox/ledger"
	"strongbox/pool"
	"strongbox/tree"
)

// Tip returns the Id of the best block.
func (n *Node) Tip() api.Hash { return n.now.Chain.Tip() }

// Height returns the height of the best block.
func (n *Node) Height() int { return n.now.Chain.Height() }

// Coins returns the coins of the wallet.
func (n *Node) Coins() []coins.Entry { return n.now.Coins(n.now.View) }

// Spendable returns those that the wallet may spend.
func (n *Node) Spendable() []coins.Entry { return n.now.Spendable(n.now.View) }

// Balance returns what the coins are worth.
func (n *Node) Balance() ledger.Balance { return n.now.Balance(n.now.View) }

// State returns the state of a transaction of the wallet, and its depth if it is confirmed.
func (n *Node) State(id api.Hash) (int, int) { return n.now.State(n.now.View, id) }

// Own returns the wallet's transactions.
func (n *Node) Own() []api.Tx { return n.now.List() }

// Waits returns what waits for a block.
func (n *Node) Waits() []pool.Entry { return n.now.Pool.List() }

// Scripts returns the scripts of the wallet.
func (n *Node) Scripts() [][]byte { return n.now.Ring.Scripts() }

// Estimate returns the rate that is needed to be in one of so many next blocks.
func (n *Node) Estimate(target, percent int) (int64, api.Errno) {
	return n.now.book.Estimate(target, percent)
}

// Locked reports whether a place is locked.
func (n *Node) Locked(p api.OutPoint) bool { return n.now.Locked(p) }

// Labeled returns the label of a script.
func (n *Node) Labeled(script []byte) string { return n.now.Labeled(script) }

// Tree returns a copy of the tree of all headers.
func (n *Node) Tree() *tree.Tree { return n.now.Chain.Tree() }

// Ops returns how many operations were performed.
func (n *Node) Ops() int { return n.ops }
