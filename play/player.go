package play

import (
	"slices"

	"strongbox/api"
	"strongbox/disk"
	"strongbox/node"
	"strongbox/spend"
	"strongbox/tx"
)

const (
	leastRate = 1000 // of what is sent, or sent again
	unit      = 1000 // in which a payment is counted
)

// player is a node, and the disk on which it is. There is no node if the disk could not be opened.
type player struct {
	*node.Node
	disk *disk.Disk
}

// open opens the node that is on the disk.
func (p *player) open() (err api.Errno) {
	p.Node, err = node.Open(p.disk, Gap)
	return err
}

func (p *player) perform(s Step) api.Errno { return effects()[s.Code](p, s) }

// effects returns what the steps of each code do.
func effects() [codes]func(*player, Step) api.Errno {
	return [...]func(*player, Step) api.Errno{
		mine:     (*player).mine,
		accept:   (*player).accept,
		enter:    (*player).enter,
		describe: (*player).describe,
		take:     (*player).take,
		send:     (*player).send,
		bump:     (*player).bump,
		abandon:  (*player).abandon,
		rescan:   (*player).rescan,
		lock:     (*player).lock,
		label:    (*player).label,
		compact:  (*player).compact,
		crash:    (*player).crash,
		arm:      (*player).arm,
		none:     func(*player, Step) api.Errno { return api.OK },
		fork:     (*player).fork,
	}
}

func (p *player) do(o node.Op) api.Errno { return p.Do(o).Err }

func (p *player) accept(s Step) api.Errno { return p.do(node.Op{Kind: node.Block, Data: s.Data}) }

func (p *player) enter(s Step) api.Errno { return p.do(node.Op{Kind: node.Tx, Data: s.Data}) }

func (p *player) describe(s Step) api.Errno {
	return p.do(node.Op{Kind: node.Desc, Text: Text(s.A)})
}

func (p *player) take(s Step) api.Errno {
	return p.do(node.Op{Kind: node.Take, N: s.A % (keys * kinds)})
}

func (p *player) send(s Step) api.Errno {
	// Here the last one of the scripts comes first.
	own := p.Scripts()
	slices.Reverse(own)
	return p.do(node.Op{Kind: node.Send, Order: spend.Order{
		Pay:  []api.TxOut{{Value: unit * int64(s.A), Script: payee(s.C, own)}},
		Rate: leastRate + int64(s.B),
		Way:  s.C % 4,
		Seed: uint64(s.A),
	}})
}

// payee returns the first script of the wallet if a number divided by 4 is odd and there is one, and otherwise that of everybody.
func payee(n int, own [][]byte) []byte {
	if script, ok := pick(own, 0); ok && n/4%2 == 1 {
		return script
	}
	return []byte{0x51}
}

func (p *player) bump(s Step) api.Errno {
	return p.do(node.Op{Kind: node.Bump, Id: p.own(s.A), Rate: leastRate + int64(s.B)})
}

func (p *player) abandon(s Step) api.Errno {
	return p.do(node.Op{Kind: node.Abandon, Id: p.own(s.A)})
}

// own returns the Id of one of the wallet's transactions, or zero bytes if there are none.
func (p *player) own(i int) api.Hash {
	t, ok := pick(p.Own(), i)
	if !ok {
		return api.Hash{}
	}
	return tx.Id(t)
}

// pick returns the element at an index modulo their number, and whether there are any.
func pick[T any](list []T, i int) (one T, ok bool) {
	if len(list) == 0 {
		return one, false
	}
	return list[i%len(list)], true
}

func (p *player) rescan(s Step) api.Errno { return p.do(node.Op{Kind: node.Rescan, N: s.A}) }

func (p *player) lock(s Step) api.Errno {
	coin, _ := pick(p.Coins(), s.A/2)
	return p.do(node.Op{Kind: node.Lock, Place: coin.Place, On: s.A%2 == 1})
}

func (p *player) label(s Step) api.Errno {
	script, _ := pick(p.Scripts(), s.A)
	return p.do(node.Op{Kind: node.Label, Data: script, Text: string(s.Data)})
}

func (p *player) compact(Step) api.Errno { return p.Compact() }

func (p *player) crash(s Step) api.Errno {
	p.disk.Crash(s.A, s.B)
	return p.open()
}

func (p *player) arm(s Step) api.Errno {
	p.disk.Arm(s.A)
	return api.OK
}
