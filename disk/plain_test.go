package disk_test

import (
	"bytes"
	"math"
	"math/big"
	"testing"

	"strongbox/api"
	"strongbox/disk"
)

// plainWrite is a write that is not durable yet.
type plainWrite struct {
	at   int
	data []byte
}

// plainDisk is a disk as the document says it: all its sectors, and all writes that are not durable.
type plainDisk struct {
	sectors [][]byte
	writes  []plainWrite
	dead    bool
	left    int // negative: not armed
}

func newPlain(n int) *plainDisk {
	p := &plainDisk{left: -1}
	for range min(max(n, 0), 65536) {
		p.sectors = append(p.sectors, make([]byte, 64))
	}
	return p
}

func (p *plainDisk) has(i int) bool { return 0 <= i && i < len(p.sectors) }

func (p *plainDisk) read(i int) ([]byte, api.Errno) {
	switch {
	case !p.has(i):
		return nil, api.ErrArg
	case p.dead:
		return nil, api.ErrDead
	}
	b := p.sectors[i]
	for _, w := range p.writes {
		if w.at == i {
			b = w.data
		}
	}
	return b, api.OK
}

// step: does a call that has no other error take effect?
func (p *plainDisk) step() bool {
	switch {
	case p.dead:
		return false
	case p.left == 0:
		p.dead = true
		return false
	case p.left > 0:
		p.left--
	}
	return true
}

func (p *plainDisk) write(i int, b []byte) api.Errno {
	switch {
	case !p.has(i):
		return api.ErrArg
	case len(b) > 64:
		return api.ErrSize
	case !p.step():
		return api.ErrDead
	}
	p.writes = append(p.writes, plainWrite{i, append(bytes.Clone(b), make([]byte, 64-len(b))...)})
	return api.OK
}

func (p *plainDisk) sync() api.Errno {
	if !p.step() {
		return api.ErrDead
	}
	for _, w := range p.writes {
		p.sectors[w.at] = w.data
	}
	p.writes = nil
	return api.OK
}

func (p *plainDisk) arm(n int) { p.left = max(n, -1) }

// modulo returns the absolute value of n modulo m.
func modulo(n, m int) int {
	abs := new(big.Int).Abs(big.NewInt(int64(n)))
	return int(abs.Mod(abs, big.NewInt(int64(m))).Int64())
}

func (p *plainDisk) crash(keep, torn int) {
	keep, torn = modulo(keep, len(p.writes)+1), modulo(torn, 64)
	for i, w := range p.writes {
		if i < keep {
			p.sectors[w.at] = w.data
		}
		if i == keep {
			p.sectors[w.at] = append(bytes.Clone(w.data[:torn]), p.sectors[w.at][torn:]...)
		}
	}
	p.writes, p.dead, p.left = nil, false, -1
}

func (p *plainDisk) twin() *plainDisk {
	q := *p
	q.sectors = append([][]byte(nil), p.sectors...)
	q.writes = append([]plainWrite(nil), p.writes...)
	return &q
}

// expectSame holds all that a disk shows against the plain one.
func expectSame(t *testing.T, what string, d *disk.Disk, p *plainDisk) {
	t.Helper()
	if d.Sectors() != len(p.sectors) || d.Dead() != p.dead || d.Pending() != len(p.writes) {
		t.Fatalf("%s: Sectors %d, Dead %v, Pending %d; want %d, %v, %d", what, d.Sectors(), d.Dead(), d.Pending(), len(p.sectors), p.dead, len(p.writes))
	}
	for i := -1; i <= len(p.sectors); i++ {
		want, wantErr := p.read(i)
		if got, err := d.Read(i); !bytes.Equal(got, want) || err != wantErr {
			t.Fatalf("%s: Read(%d) = %x, error %d; want %x, %d", what, i, got, err, want, wantErr)
		}
	}
}

// dice throws numbers that are always the same.
type dice uint64

func (d *dice) throw(n int) int {
	*d = *d*6364136223846793005 + 1442695040888963407
	return int(*d >> 33 % dice(n))
}

// pick throws one of these numbers.
func (d *dice) pick(list ...int) int { return list[d.throw(len(list))] }

// bytes throws n bytes.
func (d *dice) bytes(n int) []byte {
	b := make([]byte, n)
	for i := range b {
		b[i] = byte(1 + d.throw(255))
	}
	return b
}

// pair is a disk and the plain one, to which the same is done.
type pair struct {
	d *disk.Disk
	p *plainDisk
}

func newPair(n int) pair { return pair{disk.New(n), newPlain(n)} }

func (x pair) twin() pair { return pair{x.d.Twin(), x.p.twin()} }

func (x pair) write(t *testing.T, i int, b []byte) {
	t.Helper()
	if got, want := x.d.Write(i, b), x.p.write(i, b); got != want {
		t.Fatalf("Write(%d, %d bytes) = %d; want %d", i, len(b), got, want)
	}
}

func (x pair) sync(t *testing.T) {
	t.Helper()
	if got, want := x.d.Sync(), x.p.sync(); got != want {
		t.Fatalf("Sync() = %d; want %d", got, want)
	}
}

func (x pair) arm(n int) {
	x.d.Arm(n)
	x.p.arm(n)
}

func (x pair) crash(keep, torn int) {
	x.d.Crash(keep, torn)
	x.p.crash(keep, torn)
}

// any does anything to both.
func (x pair) any(t *testing.T, at *dice) {
	t.Helper()
	n := len(x.p.sectors)
	switch at.throw(12) {
	case 0:
		x.arm(at.pick(-3, -1, 0, 1, 2, 5, math.MinInt, math.MaxInt))
	case 1, 2:
		x.sync(t)
	case 3:
		x.crash(at.pick(math.MinInt, -2, -1, 0, 1, 2, 3, 7, math.MaxInt), at.pick(math.MinInt, -70, -1, 0, 1, 30, 63, 64, 65, math.MaxInt))
	default:
		x.write(t, at.throw(n+2)-1, at.bytes(at.pick(0, 1, 5, 63, 64, 64, 65)))
	}
}
