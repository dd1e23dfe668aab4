package play_test

import (
	"encoding/binary"
	"fmt"
	"strings"
	"testing"

	"strongbox/amount"
	"strongbox/api"
	"strongbox/block"
	"strongbox/disk"
	"strongbox/hash"
	"strongbox/hdkey"
	"strongbox/node"
	"strongbox/play"
	"strongbox/spend"
	"strongbox/tx"
)

// plainHas returns what a step has, as the document's table writes it.
func plainHas(code int) string {
	return strings.Split("b s s b b dwb bw b b b bs - bb b - b", " ")[code]
}

// plainSteps reads a script by the document's words.
func plainSteps(script []byte) (list []play.Step) {
	for len(script) > 0 {
		s := play.Step{Code: int(script[0]) % 16}
		script = script[1:]
		numbers := []*int{&s.A, &s.B, &s.C}
		for _, kind := range plainHas(s.Code) {
			switch width := map[rune]int{'b': 1, 'w': 2, 'd': 4}[kind]; {
			case kind == '-':
			case kind == 's':
				size, rest, ok := plainSize(script)
				if !ok || size > 2000 || len(rest) < size {
					return list
				}
				s.Data, script = append([]byte(nil), rest[:size]...), rest[size:]
			case len(script) < width:
				return list
			default:
				var b [8]byte
				copy(b[:], script[:width])
				*numbers[0], numbers = int(binary.LittleEndian.Uint64(b[:])), numbers[1:]
				script = script[width:]
			}
		}
		list = append(list, s)
	}
	return list
}

// plainSize reads a size up to 65535: a greater one is more than a step may have.
func plainSize(b []byte) (int, []byte, bool) {
	switch {
	case len(b) >= 1 && b[0] < 253:
		return int(b[0]), b[1:], true
	case len(b) >= 3 && b[0] == 253:
		n := int(binary.LittleEndian.Uint16(b[1:]))
		return n, b[3:], n >= 253
	}
	return 0, nil, false
}

// plainText returns a descriptor by the document's words.
func plainText(n int) string {
	seed := hash.Sum256([]byte{byte(n / 4)})
	key, _ := hdkey.Master(seed[:])
	form := []string{"wpkh(K/*)", "pkh(K/0/*)", "sh(wpkh(K/1/*))", "wsh(multi(1,K/2/*,K/3/*))"}[n%4]
	return strings.ReplaceAll(form, "K", key.Text())
}

// hand is a node to which steps are done by hand.
type hand struct {
	n *node.Node
	d *disk.Disk
}

func handOn(t *testing.T, d *disk.Disk) *hand {
	t.Helper()
	n, err := node.Open(d, 3)
	if err != api.OK {
		t.Fatalf("Open: error %d", err)
	}
	return &hand{n, d}
}

// byHand returns what a script comes to if its steps are performed by hand.
func byHand(t *testing.T, d *disk.Disk, script []byte) (play.Report, *hand) {
	t.Helper()
	h := handOn(t, d)
	var r play.Report
	for _, s := range plainSteps(script) {
		r.Lines = append(r.Lines, h.line(s.Code, h.perform(s)))
	}
	r.Tip, r.Ops, r.Balance = h.n.Tip(), h.n.Ops(), h.n.Balance()
	return r, h
}

func (h *hand) line(code int, err api.Errno) string {
	return fmt.Sprintf("%d %d %d %s", code, err, h.n.Height(), amount.Format(h.n.Balance().Ready))
}

func (h *hand) perform(s play.Step) api.Errno {
	own, scripts, coins := h.n.Own(), h.n.Scripts(), h.n.Coins()
	var id api.Hash
	if len(own) > 0 {
		id = tx.Id(own[s.A%len(own)])
	}
	var o node.Op
	switch s.Code {
	case 0:
		return h.mine(s.A)
	case 1:
		o = node.Op{Kind: node.Block, Data: s.Data}
	case 2:
		o = node.Op{Kind: node.Tx, Data: s.Data}
	case 3:
		o = node.Op{Kind: node.Desc, Text: plainText(s.A % 8)}
	case 4:
		o = node.Op{Kind: node.Take, N: s.A % 8}
	case 5:
		to := api.TxOut{Value: 1000 * int64(s.A), Script: []byte{0x51}}
		if s.C/4%2 == 1 && len(scripts) > 0 {
			to.Script = scripts[len(scripts)-1]
		}
		o = node.Op{Kind: node.Send, Order: spend.Order{Pay: []api.TxOut{to}, Rate: 1000 + int64(s.B), Way: s.C % 4, Seed: uint64(s.A)}}
	case 6:
		o = node.Op{Kind: node.Bump, Id: id, Rate: 1000 + int64(s.B)}
	case 7:
		o = node.Op{Kind: node.Abandon, Id: id}
	case 8:
		o = node.Op{Kind: node.Rescan, N: s.A}
	case 9:
		o = node.Op{Kind: node.Lock, On: s.A%2 == 1}
		if len(coins) > 0 {
			o.Place = coins[s.A/2%len(coins)].Place
		}
	case 10:
		o = node.Op{Kind: node.Label, Text: string(s.Data)}
		if len(scripts) > 0 {
			o.Data = scripts[s.A%len(scripts)]
		}
	case 11:
		return h.n.Compact()
	case 12:
		h.d.Crash(s.A, s.B)
		n, err := node.Open(h.d, 3)
		h.n = n
		return err
	case 13:
		h.d.Arm(s.A)
		return api.OK
	case 14:
		return api.OK
	case 15:
		return h.fork(s.A)
	}
	return h.n.Do(o).Err
}

func (h *hand) receive(b api.Block) api.Errno {
	return h.n.Do(node.Op{Kind: node.Block, Data: block.Encode(b)}).Err
}

// below returns the block so many below the tip, or the first one.
func (h *hand) below(back int) api.Hash {
	path := h.n.Tree().Path(h.n.Tip())
	return path[max(len(path)-1-back, 0)]
}

func (h *hand) mine(a int) api.Errno {
	if a%4 == 0 || h.n.Height() == 0 {
		return h.receive(h.n.Block())
	}
	return h.receive(h.child(h.below(a%4), a))
}

func (h *hand) fork(a int) api.Errno {
	third := (4*a + 1) % 256
	var first api.Block
	if h.n.Height() == 0 {
		first = h.n.Block()
	} else {
		first = h.child(h.below(1), third)
	}
	if err := h.receive(first); err != api.OK || a%3 == 0 {
		return err
	}
	second := h.child(block.Id(first.Header), (third+1)%256)
	if err := h.receive(second); err != api.OK || a%3 == 1 {
		return err
	}
	return h.receive(h.child(block.Id(second.Header), (third+2)%256))
}

// child returns a block that follows another one, with a third byte.
func (h *hand) child(up api.Hash, third int) api.Block {
	x := h.n.Tree()
	height := x.Height(up) + 1
	script := []byte{0x51}
	if own := h.n.Scripts(); third/4%2 == 1 && len(own) > 0 {
		script = own[0]
	}
	coinbase := api.Tx{
		Version: 1,
		In:      []api.TxIn{{Prev: api.OutPoint{Index: 1<<32 - 1}, Script: []byte{2, byte(height), byte(height / 256), byte(third)}}},
		Out:     []api.TxOut{{Value: block.Subsidy(height), Script: script}},
	}
	b := api.Block{Header: api.Header{Version: 1, Prev: up, Time: x.Median(up) + 600, Bits: x.Expected(up)}, Txs: []api.Tx{coinbase}}
	b.Merkle = block.Root(b)
	for !block.Proved(b.Header) {
		b.Nonce++
	}
	return b
}

// all returns everything that a node tells, as text.
func all(n *node.Node) string {
	s := fmt.Sprintln(n.Tip(), n.Height(), n.Ops(), n.Balance(), n.Coins(), n.Spendable(), n.Waits(), n.Tree().Count(), n.Tree().Tip())
	for _, t := range n.Own() {
		state, depth := n.State(tx.Id(t))
		s += fmt.Sprintln(tx.Id(t), state, depth)
	}
	for _, e := range n.Coins() {
		s += fmt.Sprintln(e.Place, n.Locked(e.Place))
	}
	for _, b := range n.Scripts() {
		s += fmt.Sprintf("%x %q\n", b, n.Labeled(b))
	}
	return s + fmt.Sprintln(n.Locked(api.OutPoint{}), n.Labeled(nil))
}

// stored returns what a disk has, with and without what isn't durable yet, and all that a node tells that is opened on it.
func stored(t *testing.T, d *disk.Disk) string {
	t.Helper()
	var s strings.Builder
	fmt.Fprintln(&s, d.Dead(), d.Pending())
	for keep := 0; keep <= d.Pending(); keep += max(d.Pending(), 1) {
		twin := d.Twin()
		twin.Crash(keep, 0)
		for i := range twin.Sectors() {
			b, _ := twin.Read(i)
			s.Write(b)
		}
		s.WriteString(all(handOn(t, twin).n))
	}
	return s.String()
}

// played runs a script, and compares all that it does with what is done by hand.
func played(t *testing.T, sectors int, script []byte) (play.Report, *hand) {
	t.Helper()
	d, e := disk.New(sectors), disk.New(sectors)
	got := play.Run(d, script)
	want, h := byHand(t, e, script)
	if fmt.Sprint(got) != fmt.Sprint(want) {
		t.Fatalf("Run(%x) =\n%v\nwant\n%v", script, got, want)
	}
	if stored(t, d) != stored(t, e) {
		t.Fatalf("Run(%x) left something else on the disk", script)
	}
	return got, h
}
