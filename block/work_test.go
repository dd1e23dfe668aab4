package block_test

import (
	"bytes"
	"math"
	"math/big"
	"slices"
	"testing"

	"strongbox/api"
	"strongbox/block"
)

// manyBits are bits with each e, and m at its edges.
func manyBits() []uint32 {
	var out []uint32
	for _, e := range []uint32{0, 1, 2, 3, 4, 5, 9, 28, 29, 30, 31, 32, 33, 34, 35, 36, 64, 127, 128, 254, 255} {
		for _, m := range []uint32{0, 1, 2, 0x7f, 0x80, 0xff, 0x100, 0x3456, 0x7fff, 0x8000, 0xffff, 0x10000, 0x10001, 0x101, 0x123456, 0x7f0000, 0x7ffffe, 0x7fffff, 0x800000, 0x800001, 0xffffff} {
			out = append(out, e<<24|m)
		}
	}
	return append(out, 0x207fffff, 0x20800000, 0x1f7fffff, 0x217fff00, 0x21007fff, 0x21008000, 0x2200007f, 0x22000080, 0x23000000, 0x1d00ffff, 0x1c3fffc0)
}

func TestP10_3Target(t *testing.T) {
	for _, bits := range manyBits() {
		n, err := block.Target(bits)
		want := modelTarget(bits)
		if want == nil {
			if err != api.ErrForm || n != (block.Number{}) {
				t.Errorf("Target(%08x) = %x, error %d", bits, n, err)
			}
			continue
		}
		if err != api.OK || n != number(want) {
			t.Errorf("Target(%08x) = %x, error %d; want %x", bits, n, err, want)
		}
	}
}

func TestP10_3TargetEdges(t *testing.T) {
	for _, c := range []struct {
		bits uint32
		want block.Number
		err  api.Errno
	}{
		{0x1d00ffff, block.Number{4: 0xff, 5: 0xff}, api.OK},
		{0x207fffff, block.Number{0: 0x7f, 1: 0xff, 2: 0xff}, api.OK},
		{0x21007fff, block.Number{0: 0x7f, 1: 0xff}, api.OK},
		{0x2200007f, block.Number{0: 0x7f}, api.OK},
		{0x03000001, block.Number{31: 1}, api.OK},
		{0x02000100, block.Number{31: 1}, api.OK},
		{0x01010000, block.Number{31: 1}, api.OK},
		{0x01012345, block.Number{31: 1}, api.OK},
		{0x047fffff, block.Number{28: 0x7f, 29: 0xff, 30: 0xff}, api.OK},
		{0x01003456, block.Number{}, api.ErrForm},
		{0x007fffff, block.Number{}, api.ErrForm},
		{0x020000ff, block.Number{}, api.ErrForm},
		{0x04800000, block.Number{}, api.ErrForm},
		{0x21008000, block.Number{}, api.ErrForm},
		{0x21010000, block.Number{}, api.ErrForm},
		{0x21010001, block.Number{}, api.ErrForm},
		{0x22000101, block.Number{}, api.ErrForm},
		{0x22000080, block.Number{}, api.ErrForm},
		{0x22000100, block.Number{}, api.ErrForm},
		{0x23000001, block.Number{}, api.ErrForm},
		{0xff000001, block.Number{}, api.ErrForm},
		{0xff000000, block.Number{}, api.ErrForm},
	} {
		if n, err := block.Target(c.bits); n != c.want || err != c.err {
			t.Errorf("Target(%08x) = %x, error %d", c.bits, n, err)
		}
	}
}

// numbers are some with each count of bytes, and at the edges of each.
func numbers() []block.Number {
	out := []block.Number{{}, number(modelLimit()), number(new(big.Int).Add(modelLimit(), big.NewInt(1)))}
	for size := 1; size <= 32; size++ {
		for _, first := range []byte{1, 0x7f, 0x80, 0xff} {
			for _, next := range []byte{0, 0x12, 0x7f, 0x80, 0xff} {
				var n block.Number
				copy(n[32-size:], bytes.Repeat([]byte{next}, size))
				n[32-size] = first
				out = append(out, n)
			}
		}
	}
	return out
}

func TestP10_3Bits(t *testing.T) {
	for _, n := range numbers() {
		if got, want := block.Bits(n), modelBits(value(n)); got != want {
			t.Errorf("Bits(%x) = %08x; want %08x", n, got, want)
		}
	}
	for _, c := range []struct {
		n    block.Number
		want uint32
	}{
		{block.Number{}, 0}, {block.Number{31: 0x12}, 0x01120000}, {block.Number{31: 0x80}, 0x02008000}, {block.Number{30: 1, 31: 2}, 0x02010200},
		{block.Number{30: 0x81, 31: 2}, 0x03008102}, {block.Number{29: 1, 30: 2, 31: 3}, 0x03010203}, {block.Number{29: 0xff, 30: 2, 31: 3}, 0x0400ff02},
		{block.Number{28: 1, 31: 9}, 0x04010000}, {block.Number{0: 0x80}, 0x21008000}, {block.Number{0: 0x7f, 1: 0xff, 2: 0xff, 3: 0xff}, 0x207fffff},
	} {
		if got := block.Bits(c.n); got != c.want {
			t.Errorf("Bits(%x) = %08x; want %08x", c.n, got, c.want)
		}
	}
}

// TestP10_3BitsOfTarget: Bits reverses Target.
func TestP10_3BitsOfTarget(t *testing.T) {
	for _, bits := range manyBits() {
		n, err := block.Target(bits)
		if err != api.OK {
			continue
		}
		if again, err := block.Target(block.Bits(n)); again != n || err != api.OK {
			t.Errorf("Target(%08x) = %x, whose Bits are %08x", bits, n, block.Bits(n))
		}
	}
	for _, bits := range []uint32{0x1d00ffff, 0x207fffff, 0x01010000, 0x03123456, 0x1b0404cb} {
		if n, _ := block.Target(bits); block.Bits(n) != bits {
			t.Errorf("Bits(Target(%08x)) = %08x", bits, block.Bits(n))
		}
	}
}

func TestP10_3Work(t *testing.T) {
	for _, bits := range manyBits() {
		if got, want := block.Work(bits), number(modelWork(bits)); got != want {
			t.Errorf("Work(%08x) = %x; want %x", bits, got, want)
		}
	}
	for bits, want := range map[uint32]block.Number{
		0x1d00ffff: number(big.NewInt(4295032833)), 0x207fffff: {31: 2}, 0x01010000: {0: 0x80}, 0x01020000: number(new(big.Int).Div(power(256), big.NewInt(3))),
		0: {}, 0x20800000: {}, 0x21010000: {}, 0x01003456: {},
	} {
		if got := block.Work(bits); got != want {
			t.Errorf("Work(%08x) = %x; want %x", bits, got, want)
		}
	}
}

func TestP10_3AddAndCompare(t *testing.T) {
	all := append(numbers(), number(ones(256)), number(ones(255)), number(power(255)), number(ones(128)), number(power(128)), block.Number{31: 2})
	for _, a := range all {
		for _, b := range all {
			sum := new(big.Int).Add(value(a), value(b))
			if sum.BitLen() > 256 {
				sum = ones(256)
			}
			if got := block.Add(a, b); got != number(sum) {
				t.Fatalf("Add(%x, %x) = %x; want %x", a, b, got, sum)
			}
			if got, want := block.Compare(a, b), value(a).Cmp(value(b)); got != want {
				t.Fatalf("Compare(%x, %x) = %d; want %d", a, b, got, want)
			}
		}
	}
}

func TestP10_3AddEdges(t *testing.T) {
	greatest, one := number(ones(256)), block.Number{31: 1}
	less := number(new(big.Int).Sub(ones(256), big.NewInt(1)))
	half := number(power(255))
	for _, c := range []struct{ a, b, want block.Number }{
		{less, one, greatest}, {one, less, greatest}, {greatest, one, greatest}, {greatest, greatest, greatest}, {greatest, block.Number{}, greatest},
		{half, half, greatest}, {half, number(ones(255)), greatest}, {number(ones(255)), one, half}, {block.Number{31: 255}, one, block.Number{30: 1}},
	} {
		if got := block.Add(c.a, c.b); got != c.want {
			t.Errorf("Add(%x, %x) = %x", c.a, c.b, got)
		}
	}
}

// TestP10_3Proved holds many Ids against targets, the last byte of an Id being the most significant one.
func TestP10_3Proved(t *testing.T) {
	for _, bits := range []uint32{0x207fffff, 0x203fffff, 0x20010000, 0x2000ffff, 0x21000100, 0x1f7fffff, 0x1d00ffff, 0, 0x20800000, 0x21008000, 0x23000001} {
		target, proved := modelTarget(bits), 0
		for nonce := range uint32(3000) {
			h := api.Header{Version: 1, Bits: bits, Nonce: nonce}
			id := block.Id(h)
			slices.Reverse(id[:])
			want := target != nil && new(big.Int).SetBytes(id[:]).Cmp(target) <= 0
			if block.Proved(h) != want {
				t.Fatalf("Proved of bits %08x, Id %x: %v", bits, id, !want)
			}
			if want {
				proved++
			}
		}
		if bits == 0x207fffff && (proved < 1300 || proved > 1700) {
			t.Errorf("%d of 3000 headers are Proved", proved)
		}
	}
}

// TestP10_3ProvedNearTarget asks for those of many Ids that come nearer to the target than all before them, on either side.
func TestP10_3ProvedNearTarget(t *testing.T) {
	const bits = 0x2000ffff
	target := modelTarget(bits)
	above, below := power(256), power(256)
	for nonce := range uint32(40000) {
		h := api.Header{Bits: bits, Nonce: nonce}
		id := block.Id(h)
		slices.Reverse(id[:])
		distance := new(big.Int).Sub(new(big.Int).SetBytes(id[:]), target)
		nearest := above
		if distance.Sign() <= 0 {
			nearest = below
		}
		if new(big.Int).Abs(distance).Cmp(nearest) >= 0 {
			continue
		}
		nearest.Abs(distance)
		if block.Proved(h) != (distance.Sign() <= 0) {
			t.Errorf("Proved of an Id %x beyond the target: %v", distance, block.Proved(h))
		}
	}
}

func TestP10_3Next(t *testing.T) {
	spans := []int64{math.MinInt64, -4800, -1, 0, 1, 1199, 1200, 1201, 2399, 2400, 3600, 4799, 4800, 4801, 7001, 9600, 19199, 19200, 19201, 1 << 40, math.MaxInt64}
	for _, bits := range append(manyBits(), 0x1fffff, 0x201fffff, 0x20200000, 0x20400000, 0x01030000, 0x01040000, 0x01050000) {
		for _, span := range spans {
			if got, want := block.Next(bits, span), modelNext(bits, span); got != want {
				t.Errorf("Next(%08x, %d) = %08x; want %08x", bits, span, got, want)
			}
		}
	}
}

func TestP10_3NextEdges(t *testing.T) {
	for _, c := range []struct {
		bits uint32
		span int64
		want uint32
	}{
		{0x1d00ffff, 4800, 0x1d00ffff}, {0x1d00ffff, 1, 0x1c3fffc0}, {0x1d00ffff, 1200, 0x1c3fffc0}, {0x1d00ffff, 19200, 0x1d03fffc}, {0x1d00ffff, 19201, 0x1d03fffc},
		{0x207fffff, 4800, 0x207fffff}, {0x207fffff, 4801, 0x207fffff}, {0x207fffff, 19200, 0x207fffff}, {0x207fffff, 2400, 0x203fffff}, {0x207fffff, 1200, 0x201fffff},
		{0x01010000, 1200, 0x01010000}, {0x01010000, 4799, 0x01010000}, {0x01010000, 9599, 0x01010000}, {0x01010000, 9600, 0x01020000}, {0x01010000, 19200, 0x01040000},
		{0, 4800, 0x207fffff}, {0x20800000, 1200, 0x207fffff}, {0x23000001, -1, 0x207fffff}, {0x01003456, 19200, 0x207fffff},
	} {
		if got := block.Next(c.bits, c.span); got != c.want {
			t.Errorf("Next(%08x, %d) = %08x; want %08x", c.bits, c.span, got, c.want)
		}
	}
}
