package play_test

import (
	"fmt"
	"math/rand"
	"slices"
	"strings"
	"testing"

	"strongbox/api"
	"strongbox/block"
	"strongbox/disk"
	"strongbox/play"
	"strongbox/tx"
)

// someStep returns a random step; most of them can have an effect.
func someStep(r *rand.Rand) play.Step {
	s := play.Step{Code: r.Intn(16), A: r.Intn(256), B: r.Intn(65536), C: r.Intn(256)}
	if r.Intn(3) == 0 {
		s = play.Step{A: 4 * r.Intn(64)}
	}
	switch s.Code {
	case 5:
		s.A = []int{r.Intn(20), r.Intn(10000000), r.Intn(50000000), int(r.Uint32())}[r.Intn(4)]
	case 4:
		s.A &^= 7 * r.Intn(2)
	case 6, 7:
		// Behind twelve blocks, what was sent has such an index.
		s.A, s.B = 10+r.Intn(6), s.B>>r.Intn(12)
	case 12:
		s.B = r.Intn(256)
	case 13:
		s.A = r.Intn(30)
	case 1, 2, 10:
		s.Data = make([]byte, r.Intn(110))
		r.Read(s.Data)
	}
	return s
}

// someData returns a block or a transaction that fits a node without a wallet that received so many blocks, or nearly.
func someData(t *testing.T, r *rand.Rand) []play.Step {
	h := handOn(t, disk.New(2000))
	var steps []play.Step
	for range 11 {
		b := h.n.Block()
		h.receive(b)
		steps = append(steps, play.Step{Code: 1, Data: block.Encode(b)})
		spending := api.Tx{In: []api.TxIn{{Prev: api.OutPoint{Hash: tx.Id(b.Txs[0])}}}, Out: []api.TxOut{{Value: 50*api.Coin - r.Int63n(100000), Script: []byte{0x51}}}}
		steps = append(steps, play.Step{Code: 2, Data: tx.Encode(spending, true)})
	}
	return steps
}

// someScript returns a random script.
func someScript(t *testing.T, r *rand.Rand) []byte {
	var out []byte
	data := someData(t, r)
	if r.Intn(3) > 0 {
		out = append(out, 3, byte(r.Intn(8)))
	}
	if r.Intn(3) > 0 {
		out = append(out, make([]byte, 24)...)
		for range r.Intn(3) {
			// What is sent, and what replaces it.
			out = append(out, 5, byte(r.Intn(256)), 66, byte(r.Intn(30)), 0, 0, byte(r.Intn(3)), byte(r.Intn(256)))
			out = append(out, 6, byte(11+r.Intn(3)), 0, byte(r.Intn(40)), 7, byte(11+r.Intn(3)))
		}
	} else {
		for _, s := range data[:20] {
			out = append(out, s.Bytes()...)
		}
	}
	for range 30 {
		s := someStep(r)
		if r.Intn(8) == 0 {
			s = data[r.Intn(len(data))]
		}
		b := s.Bytes()
		b[0] += byte(16 * r.Intn(16))
		out = append(out, b...)
	}
	// The end may be missing.
	return out[:len(out)-r.Intn(3)]
}

// TestP27_2Random: any steps do what they do by hand.
func TestP27_2Random(t *testing.T) {
	t.Parallel()
	done, refused, errors := map[string]int{}, map[string]int{}, map[string]int{}
	r := rand.New(rand.NewSource(27))
	for range 40 {
		report, _ := played(t, []int{100, 200, 3000}[r.Intn(3)], someScript(t, r))
		for _, line := range report.Lines {
			words := strings.Split(line, " ")
			if words[1] == "0" {
				done[words[0]]++
			} else {
				refused[words[0]]++
				errors[words[1]]++
			}
		}
	}
	if len(done) != 16 || len(refused) < 12 || len(errors) < 10 {
		t.Errorf("too little happened: %v, refused %v, errors %v", done, refused, errors)
	}
}

// TestP27_3Any: any bytes are a script, whose report is always the same.
func TestP27_3Any(t *testing.T) {
	t.Parallel()
	r := rand.New(rand.NewSource(3))
	for n := range 150 {
		b := make([]byte, r.Intn(120))
		r.Read(b)
		if n%5 == 0 {
			b = someScript(t, r)
		}
		sectors := r.Intn(300)
		one, two := disk.New(sectors), disk.New(sectors)
		x, y := play.Run(one, b), play.Run(two, b)
		if fmt.Sprint(x) != fmt.Sprint(y) || one.Dead() != two.Dead() || one.Pending() != two.Pending() {
			t.Errorf("Run(%x) = %v, and then %v", b, x, y)
		}
		want := len(plainSteps(b))
		if sectors < 16 {
			want = 1
		}
		if len(x.Lines) != want {
			t.Errorf("Run(%x) has %d lines; want %d", b, len(x.Lines), want)
		}
	}
}

// TestP27_3Bytes: what differs in ignored bytes alone has the same report.
func TestP27_3Bytes(t *testing.T) {
	t.Parallel()
	r := rand.New(rand.NewSource(4))
	for range 10 {
		b := someScript(t, r)
		var same []byte
		for _, s := range play.Steps(b) {
			same = append(same, s.Bytes()...)
		}
		x, y := play.Run(disk.New(2000), b), play.Run(disk.New(2000), same)
		if fmt.Sprint(x) != fmt.Sprint(y) {
			t.Errorf("Run(%x) = %v; want %v", b, x, y)
		}
	}
}

// TestP27_4Begins: the lines of a script are the first ones of every longer script.
func TestP27_4Begins(t *testing.T) {
	t.Parallel()
	r := rand.New(rand.NewSource(5))
	for range 12 {
		whole := someScript(t, r)
		sectors := []int{10, 60, 3000}[r.Intn(3)]
		lines := play.Run(disk.New(sectors), whole).Lines
		for range 12 {
			b := whole[:r.Intn(len(whole)+1)]
			got := play.Run(disk.New(sectors), b).Lines
			if len(got) > len(lines) || !slices.Equal(got, lines[:len(got)]) {
				t.Errorf("Run(%x) = %q; want the first lines of %q", b, got, lines)
			}
			// A step that is whole has its line, whatever comes behind.
			if want := len(plainSteps(b)); sectors > 15 && len(got) != want {
				t.Errorf("Run(%x) has %d lines; want %d", b, len(got), want)
			}
		}
	}
}

// TestP27_4Each: the same, at each byte of a script that has all codes.
func TestP27_4Each(t *testing.T) {
	t.Parallel()
	whole := script("03 02", "00 00", "00 05", "04 02", "05 40 42 0F 00 E8 03 00", "06 00 01 02", "07 00", "08 00", "09 01", "0A 01 02 41 42", "0B", "0D 01", "04 02", "0C 01 05", "0E", "0F 05", "01 01 00", "02 02 00 00", "01 FD D1 07", "00 00")
	lines := play.Run(disk.New(400), whole).Lines
	if len(lines) != 18 {
		t.Fatalf("%d lines: %q", len(lines), lines)
	}
	for n := range whole {
		got := play.Run(disk.New(400), whole[:n]).Lines
		if want := len(plainSteps(whole[:n])); len(got) != want || !slices.Equal(got, lines[:want]) {
			t.Errorf("the first %d bytes: %q; want %q", n, got, lines[:want])
		}
	}
}
