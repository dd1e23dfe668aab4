package play_test

import (
	"bytes"
	"fmt"
	"math"
	"slices"
	"strings"
	"testing"

	"strongbox/api"
	"strongbox/block"
	"strongbox/desc"
	"strongbox/disk"
	"strongbox/journal"
	"strongbox/ledger"
	"strongbox/node"
	"strongbox/play"
	"strongbox/text"
	"strongbox/tx"
)

// script returns the bytes of parts in hexadecimal digits.
func script(parts ...string) []byte {
	b, err := text.FromHex(strings.ReplaceAll(strings.Join(parts, ""), " ", ""))
	if err != api.OK {
		panic(parts)
	}
	return b
}

// eleven is the beginning of the document's examples: a descriptor and eleven blocks.
func eleven() string { return "03 00" + strings.Repeat(" 00 00", 11) }

// expectEnd: a script's last lines are these.
func expectEnd(t *testing.T, script []byte, want ...string) *hand {
	t.Helper()
	r, h := played(t, 4000, script)
	if n := len(r.Lines) - len(want); n < 0 || !slices.Equal(r.Lines[n:], want) {
		t.Errorf("Run(%x) ends with %q; want %q", script, r.Lines[max(n, 0):], want)
	}
	return h
}

// TestP27_2Examples: the document's examples.
func TestP27_2Examples(t *testing.T) {
	sent := eleven() + " 05 40 42 0F 00 E8 03 00"
	for _, c := range []struct {
		script string
		want   []string
	}{
		{"03 00 00 00", []string{"3 0 0 0.00000000", "0 0 1 0.00000000"}},
		{"03 00 03 00", []string{"3 0 0 0.00000000", "3 8 0 0.00000000"}},
		{"00 00", []string{"0 0 1 0.00000000"}},
		{eleven(), []string{"0 0 10 50.00000000", "0 0 11 100.00000000"}},
		{sent, []string{"5 0 11 100.00000000"}},
		{sent + "00 00", []string{"0 0 12 139.99999764"}},
		{eleven() + "0D 02 04 00 04 00 0C 01 00 04 00", []string{"13 0 11 100.00000000", "4 10 11 100.00000000", "4 10 11 100.00000000", "12 0 11 100.00000000", "4 0 11 100.00000000"}},
		{eleven() + "0F 02", []string{"15 0 13 200.00000000"}},
		{eleven() + "01 01 07", []string{"1 4 11 100.00000000"}},
		{"14 01", []string{"4 1 0 0.00000000"}},
		{"", nil}, {"05 00", nil}, {"0E", []string{"14 0 0 0.00000000"}},
	} {
		expectEnd(t, script(c.script), c.want...)
	}
	r := play.Run(disk.New(4000), script(sent))
	if r.Ops != 13 || r.Balance.Ready != 100*api.Coin || r.Balance.Young != 450*api.Coin || r.Balance.Pending != 4000000000-236 || r.Tip == (api.Hash{}) {
		t.Errorf("the report %v", r)
	}
	if r := play.Run(disk.New(4000), nil); fmt.Sprint(r) != fmt.Sprint(play.Report{Tip: handOn(t, disk.New(16)).n.Tip()}) {
		t.Errorf("without steps: %v", r)
	}
}

// TestP27_2Text: the eight descriptors, each with what it pays to.
func TestP27_2Text(t *testing.T) {
	const first = "xprv9s21ZrQH143K"
	scripts := map[string]int{}
	for n := range 8 {
		s := play.Text(n)
		if s != plainText(n) || !strings.Contains(s, first) || strings.Contains(s, "#") {
			t.Errorf("Text(%d) = %q; want %q", n, s, plainText(n))
		}
		for _, m := range []int{n + 8, n + 80, n + 8<<40} {
			if play.Text(m) != s {
				t.Errorf("Text(%d) = %q; want %q", m, play.Text(m), s)
			}
		}
		d, err := desc.Parse(s)
		if err != api.OK || !d.Ranged() || d.Form() != []string{"wpkh", "pkh", "sh-wpkh", "wsh-multi"}[n%4] {
			t.Errorf("Text(%d) = %q is no such descriptor: error %d", n, s, err)
			continue
		}
		for i := range uint32(20) {
			x, _ := d.At(i)
			scripts[string(x.Script)]++
		}
	}
	if len(scripts) != 160 {
		t.Errorf("%d scripts", len(scripts))
	}
	for _, n := range []int{-1, -7, -8, -9, math.MinInt} {
		if play.Text(n) != play.Text(0) {
			t.Errorf("Text(%d) = %q", n, play.Text(n))
		}
	}
	if play.Text(math.MaxInt) != play.Text(7) || play.Gap != 3 {
		t.Errorf("Text of the greatest number, or the gap %d", play.Gap)
	}
}

// TestP27_2Open: where the node can't be opened, nothing is performed.
func TestP27_2Open(t *testing.T) {
	dead := disk.New(100)
	dead.Arm(0)
	dead.Sync()
	other := disk.New(100)
	j, _ := journal.Open(other)
	j.Append([]byte("something"))
	for _, c := range []struct {
		d    *disk.Disk
		want string
	}{{disk.New(15), "open 9"}, {disk.New(0), "open 9"}, {&disk.Disk{}, "open 9"}, {dead, "open 10"}, {other, "open 3"}} {
		before := fmt.Sprint(*c.d)
		for _, s := range [][]byte{nil, script("03 00"), script("0C 00 00 0D 01 00 00")} {
			if r := play.Run(c.d, s); fmt.Sprint(r) != fmt.Sprint(play.Report{Lines: []string{c.want}}) {
				t.Errorf("Run = %v; want %q", r, c.want)
			}
		}
		if fmt.Sprint(*c.d) != before {
			t.Errorf("%s: something was performed", c.want)
		}
	}
}

// TestP27_2Reopen: if the disk can't be opened after a crash, that is the last line.
func TestP27_2Reopen(t *testing.T) {
	d := disk.New(100)
	j, _ := journal.Open(d)
	j.Append([]byte("something"))
	for i := range 100 {
		d.Write(i, nil)
	}
	r := play.Run(d, script("0E 0C 00 00 0E 03 00"))
	if fmt.Sprint(r) != fmt.Sprint(play.Report{Lines: []string{"14 0 0 0.00000000", "12 3 0 0.00000000"}}) {
		t.Errorf("Run = %v", r)
	}
}

// TestP27_2Again: a script goes on with what an earlier one left on the disk.
func TestP27_2Again(t *testing.T) {
	d := disk.New(4000)
	one := play.Run(d, script(eleven()))
	two := play.Run(d, script("05 40 42 0F 00 E8 03 00", "00 00"))
	whole := play.Run(disk.New(4000), script(eleven(), "05 40 42 0F 00 E8 03 00", "00 00"))
	if !slices.Equal(slices.Concat(one.Lines, two.Lines), whole.Lines) || two.Tip != whole.Tip || two.Ops != whole.Ops || two.Balance != whole.Balance {
		t.Errorf("%v, %v; want %v", one, two, whole)
	}
	if n, err := node.Open(d, 3); err != api.OK || n.Tip() != whole.Tip || len(n.Scripts()) != 5 {
		t.Errorf("Open: error %d", err)
	}
}

// TestP27_2Mine: which block each A makes, wherever the chain is.
func TestP27_2Mine(t *testing.T) {
	t.Parallel()
	for height := range 6 {
		for _, before := range []string{"", "03 02 03 01"} {
			start := slices.Concat(script(before), bytes.Repeat([]byte{0, 0}, height))
			for _, a := range []int{0, 1, 2, 3, 4, 5, 6, 7, 8, 9, 13, 127, 128, 129, 252, 253, 254, 255} {
				expectMined(t, start, height, a)
			}
		}
	}
	// Fees are for the Block of the node alone.
	h := expectEnd(t, script(eleven(), "05 40 42 0F 00 E8 03 00", "00 04"), "5 0 11 100.00000000", "0 0 12 139.99999764")
	if len(h.n.Waits()) != 0 || newest(h).Out[0].Value != 50*api.Coin+236 {
		t.Errorf("%v is the newest", newest(h))
	}
	h = expectEnd(t, script(eleven(), "05 40 42 0F 00 E8 03 00", "0F 02"), "5 0 11 100.00000000", "15 0 13 200.00000000")
	if len(h.n.Waits()) != 1 {
		t.Errorf("%d wait", len(h.n.Waits()))
	}
}

// newest returns the wallet's transaction that was recorded last.
func newest(h *hand) api.Tx {
	own := h.n.Own()
	return own[len(own)-1]
}

func expectMined(t *testing.T, start []byte, height, a int) {
	t.Helper()
	d := disk.New(300)
	play.Run(d, start)
	h := handOn(t, d.Twin())
	back := min(a%4, height)
	want := h.n.Block()
	if back > 0 {
		want = h.child(h.below(back), a)
	}
	r := play.Run(d, []byte{0, byte(a)})
	n := handOn(t, d).n
	if r.Lines[0] != h.line(0, 0) && back > 0 || n.Tree().Height(block.Id(want.Header)) != height-back+1 || n.Tree().Count() != height+2 || (r.Tip == block.Id(want.Header)) != (back == 0) || r.Ops != h.n.Ops()+1 {
		t.Errorf("at the height %d, A = %d: %q, another block than the one by hand", height, a, r.Lines)
	}
	if r := play.Run(d, []byte{0, byte(a)}); back > 0 && !strings.HasPrefix(r.Lines[0], "0 8 ") {
		t.Errorf("at the height %d, A = %d, again: %q", height, a, r.Lines)
	}
}

// TestP27_2Payee: whom a block beside the best one pays.
func TestP27_2Payee(t *testing.T) {
	for a, odd := range map[int]bool{1: false, 5: true, 9: false, 13: true, 249: false, 253: true} {
		for _, before := range []string{"", "03 03"} {
			d := disk.New(300)
			play.Run(d, script(before, "00 00 00 00"))
			h := handOn(t, d.Twin())
			want := h.child(h.below(1), a)
			play.Run(d, []byte{0, byte(a)})
			to := want.Txs[0].Out[0]
			own := before != "" && bytes.Equal(to.Script, h.n.Scripts()[0])
			if handOn(t, d).n.Tree().Height(block.Id(want.Header)) != 2 || own != (odd && before != "") || to.Value != 50*api.Coin {
				t.Errorf("A = %d: another block", a)
			}
		}
	}
	// The branch becomes the best one: its coins are the wallet's, or not.
	for a, young := range map[byte]int64{1: 150, 2: 50, 5: 200, 255: 100} {
		r, _ := played(t, 300, append(script("03 00 00 00 00 00 0F"), a))
		if r.Balance.Young != young*api.Coin {
			t.Errorf("A = %d: %v", a, r.Balance)
		}
	}
}

// TestP27_2Fork: so many blocks, behind the one below the best one.
func TestP27_2Fork(t *testing.T) {
	t.Parallel()
	for _, before := range []string{"", "03 00"} {
		for height := range 4 {
			for a := range 256 {
				if a > 8 && a < 60 || a > 70 && a < 250 {
					continue
				}
				start := slices.Concat(script(before), bytes.Repeat([]byte{0, 0}, height))
				r, h := played(t, 300, slices.Concat(start, []byte{15, byte(a)}))
				want := height + a%3
				if height == 0 {
					want = a%3 + 1
				}
				count := 2 + height + a%3
				if got := h.n.Height(); got != max(want, height) || h.n.Tree().Count() != count || r.Ops != len(before)/5+height+1+a%3 {
					t.Errorf("at the height %d, A = %d: %q, %d headers, %d operations", height, a, r.Lines, h.n.Tree().Count(), r.Ops)
				}
			}
		}
	}
	// The first one is there already, and the others are not performed.
	expectEnd(t, script("00 00 00 00", "0F 00", "0F 00", "00 01"), "15 0 2 0.00000000", "15 8 2 0.00000000", "0 8 2 0.00000000")
	h := expectEnd(t, script("00 00 00 00", "00 29", "0F 0A", "00 00"), "0 0 2 0.00000000", "15 8 2 0.00000000", "0 0 3 0.00000000")
	if h.n.Tree().Count() != 5 {
		t.Errorf("%d headers", h.n.Tree().Count())
	}
	// A disk that dies within the second block.
	expectEnd(t, script("00 00 00 00", "0D 07", "0F 02", "0C 00 00"), "15 10 2 0.00000000", "12 0 2 0.00000000")
}

// TestP27_2Blocks: blocks and transactions that a script has as bytes.
func TestP27_2Blocks(t *testing.T) {
	other := handOn(t, disk.New(1000))
	var blocks []api.Block
	var bytesOf []byte
	for range 11 {
		b := other.n.Block()
		blocks = append(blocks, b)
		other.receive(b)
		bytesOf = append(bytesOf, play.Step{Code: 1, Data: block.Encode(b)}.Bytes()...)
	}
	spending := api.Tx{Version: 2, In: []api.TxIn{{Prev: api.OutPoint{Hash: tx.Id(blocks[0].Txs[0])}}}, Out: []api.TxOut{{Value: 49 * api.Coin, Script: []byte{0x51}}}}
	data := tx.Encode(spending, true)
	enter := play.Step{Code: 2, Data: data}.Bytes()
	early := play.Step{Code: 2, Data: data[:20]}.Bytes()
	h := expectEnd(t, slices.Concat(bytesOf, enter, enter, early, bytesOf[:len(bytesOf)/11], script("02 00"), script("01 00")),
		"1 0 11 0.00000000", "2 0 11 0.00000000", "2 8 11 0.00000000", "2 4 11 0.00000000", "1 8 11 0.00000000", "2 4 11 0.00000000", "1 4 11 0.00000000")
	if len(h.n.Waits()) != 1 || h.n.Tip() != other.n.Tip() {
		t.Errorf("%d wait", len(h.n.Waits()))
	}
	h = expectEnd(t, slices.Concat(bytesOf, enter, script("00 00")), "2 0 11 0.00000000", "0 0 12 0.00000000")
	if len(h.n.Waits()) != 0 {
		t.Errorf("%d wait", len(h.n.Waits()))
	}
}

// TestP27_2Desc: descriptors and indices, by their numbers.
func TestP27_2Desc(t *testing.T) {
	t.Parallel()
	var all []byte
	for a := range 8 {
		all = append(all, 3, byte(a+8*a))
	}
	h := expectEnd(t, all, "3 0 0 0.00000000")
	if len(h.n.Scripts()) != 24 {
		t.Errorf("%d scripts", len(h.n.Scripts()))
	}
	for a := range 8 {
		expectEnd(t, slices.Concat(all, []byte{3, byte(a), 3, byte(255 - a)}), "3 8 0 0.00000000", "3 8 0 0.00000000")
		h := expectEnd(t, slices.Concat(all, []byte{4, byte(a), 4, byte(248 + a)}), "4 0 0 0.00000000", "4 0 0 0.00000000")
		d, _ := desc.Parse(plainText(a))
		last, _ := d.At(4)
		if len(h.n.Scripts()) != 26 || !bytes.Equal(h.n.Scripts()[3*a+4], last.Script) {
			t.Errorf("the descriptor %d: %d scripts", a, len(h.n.Scripts()))
		}
	}
	expectEnd(t, script("03 00 04 00 04 08 04 01 04 09 04 FF"), "4 0 0 0.00000000", "4 0 0 0.00000000", "4 1 0 0.00000000", "4 1 0 0.00000000", "4 1 0 0.00000000")
}

// TestP27_2Send: payments, of which each number has its effect.
func TestP27_2Send(t *testing.T) {
	t.Parallel()
	ready := " 11 100.00000000"
	for _, c := range []struct {
		step play.Step
		want string
	}{
		{play.Step{A: 0}, "5 15"}, {play.Step{A: 1}, "5 0"}, {play.Step{A: 9000000, B: 65535, C: 1}, "5 0"}, {play.Step{A: 9999999, C: 1}, "5 0"}, {play.Step{A: 10000000}, "5 16"}, {play.Step{A: math.MaxUint32}, "5 16"},
		{play.Step{A: 5000000, C: 1}, "5 0"}, {play.Step{A: 5000000, C: 2}, "5 7"}, {play.Step{A: 4999999, C: 2}, "5 7"}, {play.Step{A: 1000000, C: 3}, "5 0"}, {play.Step{A: 1000000, C: 251}, "5 0"},
	} {
		c.step.Code = 5
		h := expectEnd(t, slices.Concat(script(eleven()), c.step.Bytes()), c.want+ready)
		if waits := h.n.Waits(); c.want != "5 0" {
			if len(waits) != 0 {
				t.Errorf("%v: %d wait", c.step, len(waits))
			}
		} else if out := waits[0].Tx.Out[0]; out.Value != 1000*int64(c.step.A) || !bytes.Equal(out.Script, []byte{0x51}) || waits[0].Fee*1000 < int64(waits[0].Size*(1000+c.step.B)) {
			t.Errorf("%v: %v waits", c.step, waits)
		}
	}
	// Without a descriptor there is no change; nothing but open outputs can be paid to.
	expectEnd(t, script("05 01 00 00 00 00 00 04"), "5 1 0 0.00000000")
	for c, own := range map[byte]bool{4: true, 5: true, 7: true, 8: false, 12: true, 252: true, 3: false, 248: false} {
		h := expectEnd(t, slices.Concat(script("03 01", eleven(), "04 01"), []byte{5, 64, 66, 15, 0, 0, 0, c}), "5 0"+ready)
		scripts := h.n.Scripts()
		// The change hands out one script more, but of the first descriptor.
		if bytes.Equal(h.n.Waits()[0].Tx.Out[0].Script, scripts[len(scripts)-1]) != own || len(scripts) != 9 {
			t.Errorf("C = %d: %d scripts, %v", c, len(scripts), h.n.Waits()[0].Tx)
		}
	}
	// Another Seed, another selection.
	selected := map[string]int{}
	many := "03 00" + strings.Repeat(" 00 00", 20)
	for a := range byte(6) {
		h := expectEnd(t, slices.Concat(script(many), []byte{5, a, 27, 183, 0, 0, 0, 3}), "5 0 20 550.00000000")
		places := ""
		for _, in := range h.n.Waits()[0].Tx.In {
			places += fmt.Sprint(in.Prev)
		}
		selected[places]++
	}
	if len(selected) < 2 {
		t.Errorf("always the same selection")
	}
}

// TestP27_2Own: transactions that are sent again, or abandoned, by their index.
func TestP27_2Own(t *testing.T) {
	t.Parallel()
	sent := eleven() + "05 40 42 0F 00 00 00 00"
	ready := " 11 100.00000000"
	expectEnd(t, script("06 00 00 00", "06 07 FF FF", "07 00", "07 FF"), "6 7 0 0.00000000", "6 7 0 0.00000000", "7 7 0 0.00000000", "7 7 0 0.00000000")
	for _, i := range []string{"0B", "17", "FB"} {
		h := expectEnd(t, script(sent, "06", i, "E8 03"), "6 0"+ready)
		if own := h.n.Own(); len(own) != 13 || len(h.n.Waits()) != 1 || h.n.Waits()[0].Id != tx.Id(own[12]) {
			t.Errorf("%d own, %d wait", len(own), len(h.n.Waits()))
		}
	}
	for _, i := range []string{"00", "0A", "0C", "16", "FF"} {
		expectEnd(t, script(sent, "06", i, "E8 03"), "6 19"+ready)
	}
	// What was replaced is Inactive, and can be abandoned, once.
	h := expectEnd(t, script(sent, "06 0B E8 03", "07 0C", "07 0B", "07 18", "07 0B"), "7 19"+ready, "7 0"+ready, "7 19"+ready, "7 19"+ready)
	if state, _ := h.n.State(tx.Id(h.n.Own()[11])); state != ledger.Abandoned {
		t.Errorf("the state %d", state)
	}
	// The rate is at least 1000, and at most 1000 plus 65535.
	h = expectEnd(t, script(sent, "06 0B 00 00", "06 0C FF FF"), "6 0"+ready, "6 0"+ready)
	if e := h.n.Waits()[0]; e.Fee != (int64(e.Size)*66535+999)/1000 {
		t.Errorf("the fee %d of %d bytes", e.Fee, e.Size)
	}
}

// TestP27_2Rescan: it finds nothing new, from whatever height.
func TestP27_2Rescan(t *testing.T) {
	r, _ := played(t, 4000, script(eleven(), "08 00 08 05 08 FF"))
	if r.Ops != 15 || !slices.Equal(r.Lines[12:], slices.Repeat([]string{"8 0 11 100.00000000"}, 3)) {
		t.Errorf("%v", r)
	}
}

// TestP27_2Lock: coins by half the number, locked if it is odd.
func TestP27_2Lock(t *testing.T) {
	t.Parallel()
	ready := " 11 100.00000000"
	for a := range 256 {
		if a > 25 && a < 240 {
			continue
		}
		on := []byte{9, byte(a)}
		h := expectEnd(t, slices.Concat(script(eleven()), on), "9 0"+ready)
		for i, e := range h.n.Coins() {
			if want := a%2 == 1 && a/2%11 == i; h.n.Locked(e.Place) != want {
				t.Errorf("A = %d: the coin %d is locked: %t", a, i, !want)
			}
		}
	}
	all := ""
	for a := range 11 {
		all += fmt.Sprintf("09 %02X", 2*a+1)
	}
	pay := "05 40 42 0F 00 00 00 00"
	expectEnd(t, script(eleven(), all, pay), "9 0"+ready, "5 16"+ready)
	expectEnd(t, script(eleven(), all, "09 02 09 00 09 04 09 06 09 08 09 0A 09 0C 09 0E 09 10 09 12 09 14", pay), "9 0"+ready, "5 0"+ready)
	h := expectEnd(t, script("09 FF"), "9 0 0 0.00000000")
	if !h.n.Locked(api.OutPoint{}) {
		t.Errorf("the zero place isn't locked")
	}
	h = expectEnd(t, script("09 FF 09 00"), "9 0 0 0.00000000")
	if h.n.Locked(api.OutPoint{}) {
		t.Errorf("the zero place is locked")
	}
}

// TestP27_2Label: scripts by their index, and labels up to 100 bytes.
func TestP27_2Label(t *testing.T) {
	for i, index := range map[byte]int{0: 0, 2: 2, 3: 0, 254: 2, 255: 0} {
		h := expectEnd(t, slices.Concat(script("03 02"), play.Step{Code: 10, A: int(i), Data: []byte("rent\x00\xff")}.Bytes()), "10 0 0 0.00000000")
		for j, s := range h.n.Scripts() {
			if want := map[bool]string{true: "rent\x00\xff"}[j == index]; h.n.Labeled(s) != want {
				t.Errorf("A = %d: the label %d is %q", i, j, h.n.Labeled(s))
			}
		}
	}
	h := expectEnd(t, script("0A 05 01 41"), "10 0 0 0.00000000")
	if h.n.Labeled(nil) != "A" {
		t.Errorf("the label %q", h.n.Labeled(nil))
	}
	h = expectEnd(t, slices.Concat(script("03 00", "0A 01 01 41"), []byte{10, 1, 101}, make([]byte, 101)), "10 0 0 0.00000000", "10 2 0 0.00000000")
	if h.n.Labeled(h.n.Scripts()[1]) != "A" {
		t.Errorf("the label %q", h.n.Labeled(h.n.Scripts()[1]))
	}
	h = expectEnd(t, slices.Concat(script("03 00"), []byte{10, 1, 100}, make([]byte, 100), script("0A 00 01 42 0A 00 00")), "10 0 0 0.00000000", "10 0 0 0.00000000", "10 0 0 0.00000000")
	if len(h.n.Labeled(h.n.Scripts()[1])) != 100 || h.n.Labeled(h.n.Scripts()[0]) != "" {
		t.Errorf("the labels %q", h.n.Labeled(h.n.Scripts()[1]))
	}
}

// TestP27_2Disk: a small disk is full, compacted, armed, and dies; after a crash everything goes on.
func TestP27_2Disk(t *testing.T) {
	t.Parallel()
	d := disk.New(24)
	r := play.Run(d, bytes.Repeat([]byte{9, 1}, 20))
	full := slices.Index(r.Lines, "9 9 0 0.00000000")
	if full < 1 || r.Ops != full {
		t.Errorf("%d operations: %v", r.Ops, r.Lines)
	}
	played(t, 24, slices.Concat(bytes.Repeat([]byte{9, 1}, 20), script("0B 09 01 09 01")))
	expectEnd(t, script("0B 0D 00 0E 0B 0B 03 00 0C 00 00 0B 03 00"), "11 0 0 0.00000000", "13 0 0 0.00000000", "14 0 0 0.00000000", "11 10 0 0.00000000", "11 10 0 0.00000000", "3 10 0 0.00000000", "12 0 0 0.00000000", "11 0 0 0.00000000", "3 0 0 0.00000000")
	// What is refused doesn't touch the disk.
	expectEnd(t, script("0D 00 04 00 04 01 03 00"), "4 1 0 0.00000000", "4 1 0 0.00000000", "3 10 0 0.00000000")
	// A crash disarms, and one without a death loses nothing.
	expectEnd(t, script("0D 00 0C 05 05 03 00 0C 00 00 03 00"), "12 0 0 0.00000000", "3 0 0 0.00000000", "12 0 0 0.00000000", "3 8 0 0.00000000")
	for calls := range byte(8) {
		for keep := range byte(4) {
			for _, torn := range []byte{0, 1, 63, 200} {
				dies := slices.Concat(script("03 00 00 00"), []byte{13, calls, 0, 0, 4, 0, 12, keep, torn})
				played(t, 60, dies)
				played(t, 60, slices.Concat(dies, []byte{0, 0, 11}))
			}
		}
	}
}

// TestP27_2Work: when too much work is needed, no block of the node's own is found any more, but others are.
func TestP27_2Work(t *testing.T) {
	t.Parallel()
	h := expectEnd(t, slices.Concat(bytes.Repeat([]byte{0, 0}, 74), script("0F 02")), "0 0 73 0.00000000", "0 12 73 0.00000000", "15 0 75 0.00000000")
	greatest := uint32(0)
	for _, id := range h.n.Tree().Path(h.n.Tip()) {
		x, _ := h.n.Tree().Header(id)
		greatest = max(greatest, x.Nonce)
	}
	if greatest < 100000 {
		t.Errorf("the greatest Nonce is %d", greatest)
	}
}
