package disk_test

import (
	"bytes"
	"math"
	"strings"
	"testing"

	"strongbox/api"
	"strongbox/disk"
)

// mustWrite writes a text to a sector.
func mustWrite(t *testing.T, d *disk.Disk, i int, s string) {
	t.Helper()
	if err := d.Write(i, []byte(s)); err != api.OK {
		t.Fatalf("Write(%d, %q) = %d", i, s, err)
	}
}

func mustSync(t *testing.T, d *disk.Disk) {
	t.Helper()
	if err := d.Sync(); err != api.OK {
		t.Fatalf("Sync() = %d", err)
	}
}

// expectSector: a sector is this text followed by zero bytes.
func expectSector(t *testing.T, d *disk.Disk, i int, s string) {
	t.Helper()
	want := s + strings.Repeat("\x00", 64-len(s))
	if got, err := d.Read(i); string(got) != want || err != api.OK {
		t.Errorf("Read(%d) = %q, error %d; want %q", i, got, err, want)
	}
}

func expectErr(t *testing.T, what string, got, want api.Errno) {
	t.Helper()
	if got != want {
		t.Errorf("%s: error %d; want %d", what, got, want)
	}
}

func TestP7_1New(t *testing.T) {
	for _, c := range []struct{ n, want int }{
		{math.MinInt, 0}, {-1, 0}, {0, 0}, {1, 1}, {16, 16}, {65535, 65535}, {65536, 65536}, {65537, 65536}, {math.MaxInt, 65536},
	} {
		d := disk.New(c.n)
		if d.Sectors() != c.want || d.Dead() || d.Pending() != 0 {
			t.Errorf("New(%d): Sectors %d, Dead %v, Pending %d", c.n, d.Sectors(), d.Dead(), d.Pending())
		}
		if c.want == 0 {
			continue
		}
		expectSector(t, d, 0, "")
		expectSector(t, d, c.want-1, "")
		mustWrite(t, d, c.want-1, "end")
		expectSector(t, d, c.want-1, "end")
	}
}

func TestP7_1NoSuchSector(t *testing.T) {
	for _, n := range []int{0, 1, 5, 65536} {
		d := disk.New(n)
		for _, i := range []int{math.MinInt, -1, n, n + 1, math.MaxInt} {
			b, err := d.Read(i)
			expectErr(t, "Read", err, api.ErrArg)
			if len(b) != 0 {
				t.Errorf("Read(%d) of %d sectors = %x", i, n, b)
			}
			expectErr(t, "Write", d.Write(i, []byte("a")), api.ErrArg)
		}
		if d.Pending() != 0 {
			t.Errorf("Pending() = %d", d.Pending())
		}
	}
}

func TestP7_1ZeroDisk(t *testing.T) {
	var d disk.Disk
	if d.Sectors() != 0 || d.Dead() || d.Pending() != 0 {
		t.Errorf("Sectors %d, Dead %v, Pending %d", d.Sectors(), d.Dead(), d.Pending())
	}
	_, err := d.Read(0)
	expectErr(t, "Read", err, api.ErrArg)
	expectErr(t, "Write", d.Write(0, nil), api.ErrArg)
	expectErr(t, "Sync", d.Sync(), api.OK)
	d.Arm(1)
	expectErr(t, "Sync", d.Sync(), api.OK)
	expectErr(t, "Sync", d.Sync(), api.ErrDead)
	u := d.Twin()
	d.Crash(3, 3)
	if d.Dead() || !u.Dead() {
		t.Errorf("Dead %v, the twin %v", d.Dead(), u.Dead())
	}
	expectErr(t, "Sync", d.Sync(), api.OK)
}

func TestP7_1WriteSizes(t *testing.T) {
	d := disk.New(3)
	full := strings.Repeat("x", 64)
	for _, n := range []int{0, 1, 2, 63, 64} {
		mustWrite(t, d, 1, full)
		mustWrite(t, d, 1, full[:n])
		expectSector(t, d, 1, full[:n])
	}
	pending := d.Pending()
	for _, n := range []int{65, 66, 1000} {
		expectErr(t, "Write", d.Write(1, make([]byte, n)), api.ErrSize)
	}
	expectSector(t, d, 1, full)
	if d.Pending() != pending {
		t.Errorf("Pending() = %d; want %d", d.Pending(), pending)
	}
}

func TestP7_1LeastError(t *testing.T) {
	d := disk.New(2)
	big := make([]byte, 65)
	expectErr(t, "no sector, too long", d.Write(2, big), api.ErrArg)
	expectErr(t, "too long", d.Write(1, big), api.ErrSize)
	d.Arm(0)
	expectErr(t, "dies", d.Sync(), api.ErrDead)
	expectErr(t, "no sector, too long, dead", d.Write(-1, big), api.ErrArg)
	expectErr(t, "no sector, dead", d.Write(2, nil), api.ErrArg)
	expectErr(t, "too long, dead", d.Write(1, big), api.ErrSize)
	expectErr(t, "dead", d.Write(1, nil), api.ErrDead)
	expectErr(t, "dead", d.Sync(), api.ErrDead)
	_, err := d.Read(2)
	expectErr(t, "no sector, dead", err, api.ErrArg)
	b, err := d.Read(1)
	expectErr(t, "dead", err, api.ErrDead)
	if len(b) != 0 {
		t.Errorf("Read of a dead disk = %x", b)
	}
}

func TestP7_1Arm(t *testing.T) {
	for n := range 6 {
		d := disk.New(2)
		d.Arm(n)
		for i := range n {
			if i%2 == 0 {
				expectErr(t, "Write", d.Write(0, []byte{1}), api.OK)
			} else {
				expectErr(t, "Sync", d.Sync(), api.OK)
			}
			if d.Dead() {
				t.Fatalf("Arm(%d): dead after %d calls", n, i+1)
			}
		}
		pending := d.Pending()
		expectErr(t, "the call that kills", d.Write(1, []byte("no")), api.ErrDead)
		if !d.Dead() || d.Pending() != pending {
			t.Errorf("Arm(%d): Dead %v, Pending %d; want %d", n, d.Dead(), d.Pending(), pending)
		}
		d.Crash(d.Pending(), 0)
		expectSector(t, d, 1, "")
	}
}

func TestP7_1ArmCountsNoOtherErrors(t *testing.T) {
	d := disk.New(2)
	d.Arm(1)
	for range 3 {
		expectErr(t, "Write", d.Write(2, nil), api.ErrArg)
		expectErr(t, "Write", d.Write(0, make([]byte, 65)), api.ErrSize)
		_, err := d.Read(0)
		expectErr(t, "Read", err, api.OK)
	}
	mustWrite(t, d, 0, "a")
	expectErr(t, "Write", d.Write(2, nil), api.ErrArg)
	expectErr(t, "Write", d.Write(0, make([]byte, 65)), api.ErrSize)
	_, err := d.Read(0)
	expectErr(t, "Read", err, api.OK)
	if d.Dead() {
		t.Error("calls with another error killed the disk")
	}
	expectErr(t, "Sync", d.Sync(), api.ErrDead)
}

func TestP7_1ArmAgain(t *testing.T) {
	d := disk.New(2)
	for _, n := range []int{-1, -7, math.MinInt} {
		d.Arm(0)
		d.Arm(n)
		for range 5 {
			mustWrite(t, d, 0, "a")
			mustSync(t, d)
		}
	}
	d.Arm(1)
	mustSync(t, d)
	d.Arm(2)
	mustSync(t, d)
	mustSync(t, d)
	expectErr(t, "Sync", d.Sync(), api.ErrDead)
	for _, n := range []int{-1, 0, 5} {
		d.Arm(n)
		expectErr(t, "Sync of a dead disk that was armed again", d.Sync(), api.ErrDead)
		if !d.Dead() {
			t.Errorf("Arm(%d) revived the disk", n)
		}
	}
}

func TestP7_1CrashDisarms(t *testing.T) {
	for _, n := range []int{0, 1, 5} {
		d := disk.New(2)
		d.Arm(n)
		d.Crash(0, 0)
		for range 8 {
			mustSync(t, d)
		}
		d.Arm(0)
		expectErr(t, "Sync", d.Sync(), api.ErrDead)
		d.Arm(n)
		d.Crash(0, 0)
		if d.Dead() {
			t.Error("dead after a crash")
		}
		for range 8 {
			mustSync(t, d)
		}
	}
}

func TestP7_1Pending(t *testing.T) {
	d := disk.New(2)
	for i := range 5 {
		mustWrite(t, d, 1, "a")
		if d.Pending() != i+1 {
			t.Errorf("Pending() = %d; want %d", d.Pending(), i+1)
		}
	}
	d.Arm(0)
	expectErr(t, "Sync", d.Sync(), api.ErrDead)
	if d.Pending() != 5 {
		t.Errorf("Pending() of a dead disk = %d", d.Pending())
	}
	d.Crash(2, 0)
	if d.Pending() != 0 {
		t.Errorf("Pending() after a crash = %d", d.Pending())
	}
	mustWrite(t, d, 1, "b")
	mustSync(t, d)
	if d.Pending() != 0 {
		t.Errorf("Pending() after Sync = %d", d.Pending())
	}
}

func TestP7_2Examples(t *testing.T) {
	d := disk.New(5)
	mustWrite(t, d, 3, "abc")
	d.Crash(0, 2)
	expectSector(t, d, 3, "ab")
	mustWrite(t, d, 3, "xyz")
	mustSync(t, d)
	d.Crash(0, 0)
	expectSector(t, d, 3, "xyz")
	d.Arm(1)
	expectErr(t, "Write", d.Write(0, nil), api.OK)
	expectErr(t, "Write", d.Write(0, nil), api.ErrDead)
}

// TestP7_2CrashOfThree tries all that a crash can keep of three writes, two of which are of one sector.
func TestP7_2CrashOfThree(t *testing.T) {
	for _, dead := range []bool{false, true} {
		for _, c := range []struct {
			keep, torn int
			one, two   string
		}{
			{0, 0, "old", ""}, {0, 2, "a1d", ""}, {0, 63, "a1b", ""}, {0, 64, "old", ""}, {0, 66, "a1d", ""},
			{1, 0, "a1b", ""}, {1, 1, "a1b", "c"}, {2, 0, "a1b", "c2"}, {2, 1, "z1b", "c2"}, {2, 2, "zyb", "c2"},
			{3, 0, "zy", "c2"}, {3, 1, "zy", "c2"}, {3, 63, "zy", "c2"}, {4, 2, "a1d", ""}, {5, 0, "a1b", ""}, {7, 3, "zy", "c2"},
			{-1, 0, "a1b", ""}, {-3, 0, "zy", "c2"}, {-4, -2, "a1d", ""}, {-2, -1, "z1b", "c2"}, {0, -63, "a1b", ""}, {0, -64, "old", ""},
			{math.MinInt, math.MinInt, "old", ""}, {math.MinInt, -1, "ald", ""}, {math.MaxInt, math.MaxInt, "zy", "c2"}, {0, math.MaxInt, "a1b", ""},
		} {
			d := disk.New(3)
			mustWrite(t, d, 1, "old")
			mustSync(t, d)
			mustWrite(t, d, 1, "a1b")
			mustWrite(t, d, 2, "c2")
			mustWrite(t, d, 1, "zy")
			if dead {
				d.Arm(0)
				expectErr(t, "Sync", d.Sync(), api.ErrDead)
			}
			d.Crash(c.keep, c.torn)
			if got, _ := d.Read(1); string(bytes.TrimRight(got, "\x00")) != c.one {
				t.Errorf("Crash(%d, %d): sector 1 is %q; want %q", c.keep, c.torn, got[:4], c.one)
			}
			expectSector(t, d, 2, c.two)
			expectSector(t, d, 0, "")
		}
	}
}

func TestP7_2TornEnds(t *testing.T) {
	old, fresh := strings.Repeat("o", 64), strings.Repeat("f", 64)
	for torn := range 64 {
		d := disk.New(1)
		mustWrite(t, d, 0, old)
		mustSync(t, d)
		mustWrite(t, d, 0, fresh)
		d.Crash(0, torn)
		expectSector(t, d, 0, fresh[:torn]+old[torn:])
	}
}

func TestP7_2SyncedStays(t *testing.T) {
	d := disk.New(4)
	for i := range 4 {
		mustWrite(t, d, i, strings.Repeat("s", i))
	}
	mustSync(t, d)
	for i := range 20 {
		d.Crash(i, i)
		for i := range 4 {
			expectSector(t, d, i, strings.Repeat("s", i))
		}
	}
}

func TestP7_2AnyCalls(t *testing.T) {
	at := dice(7)
	for range 300 {
		x := newPair(at.pick(0, 1, 2, 3, 5))
		for range 60 {
			x.any(t, &at)
			expectSame(t, "any calls", x.d, x.p)
		}
	}
}

func TestP7_3Twin(t *testing.T) {
	at := dice(11)
	for range 200 {
		x := newPair(3)
		for range 20 {
			x.any(t, &at)
		}
		y := x.twin()
		expectSame(t, "the twin at first", y.d, y.p)
		for range 20 {
			x.any(t, &at)
			expectSame(t, "the twin", y.d, y.p)
			y.any(t, &at)
			expectSame(t, "the first one", x.d, x.p)
		}
	}
}

func TestP7_3TwinIsArmedToo(t *testing.T) {
	d := disk.New(2)
	d.Arm(1)
	u := d.Twin()
	mustWrite(t, d, 0, "a")
	mustWrite(t, u, 0, "b")
	expectErr(t, "Sync", u.Sync(), api.ErrDead)
	if d.Dead() {
		t.Error("the twin's death is not its own")
	}
	w := u.Twin()
	u.Crash(1, 0)
	if !w.Dead() || w.Pending() != 1 {
		t.Errorf("the twin of a dead disk: Dead %v, Pending %d", w.Dead(), w.Pending())
	}
	expectSector(t, d, 0, "a")
	expectSector(t, u, 0, "b")
}

// TestP7_3TwinSharesNoWrites writes to both from where they part, more often than spare room of a list would hold.
func TestP7_3TwinSharesNoWrites(t *testing.T) {
	d := disk.New(40)
	for i := range 5 {
		mustWrite(t, d, i, "x")
	}
	u := d.Twin()
	for i := range 30 {
		mustWrite(t, d, i, "d")
		mustWrite(t, u, i, "u")
	}
	for i := range 30 {
		expectSector(t, d, i, "d")
		expectSector(t, u, i, "u")
	}
}

func TestP7_4Memory(t *testing.T) {
	d := disk.New(2)
	room := []byte("abcdefgh")
	b := room[:3]
	expectErr(t, "Write", d.Write(0, b), api.OK)
	if string(room) != "abcdefgh" {
		t.Errorf("Write changed its argument to %q", room)
	}
	room[0] = 'X'
	expectSector(t, d, 0, "abc")
	for range 2 {
		got, _ := d.Read(0)
		other, _ := d.Read(0)
		for i := range got[:cap(got)] {
			got[:cap(got)][i] = 'Y'
		}
		expectSector(t, d, 0, "abc")
		if string(other[:3]) != "abc" {
			t.Error("two results share memory")
		}
		mustSync(t, d)
	}
	u := d.Twin()
	got, _ := u.Read(0)
	got[0] = 'Z'
	expectSector(t, d, 0, "abc")
	expectSector(t, u, 0, "abc")
}
