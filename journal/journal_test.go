package journal_test

import (
	"bytes"
	"math"
	"testing"

	"strongbox/api"
	"strongbox/disk"
	"strongbox/journal"
)

func TestP8_1Example(t *testing.T) {
	d := disk.New(40)
	j := mustOpen(t, d)
	mustAppend(t, j, []byte("a"))
	mustAppend(t, j, []byte("b"))
	mustCompact(t, j, []byte("s"))
	mustAppend(t, j, []byte("c"))
	expectEverywhere(t, "the example", d, j, plain{[]byte("s"), [][]byte{[]byte("c")}})
}

func TestP8_1NothingStored(t *testing.T) {
	for _, n := range []int{16, 17, 100, 65536} {
		d := disk.New(n)
		expectEverywhere(t, "a new disk", d, mustOpen(t, d), plain{})
	}
}

func TestP8_1OpenErrors(t *testing.T) {
	dead := func(n int) *disk.Disk {
		d := disk.New(n)
		d.Arm(0)
		d.Sync()
		return d
	}
	for _, c := range []struct {
		d    *disk.Disk
		want api.Errno
	}{
		{new(disk.Disk), api.ErrFull}, {disk.New(0), api.ErrFull}, {disk.New(15), api.ErrFull}, {disk.New(16), api.OK},
		{dead(0), api.ErrFull}, {dead(15), api.ErrFull}, {dead(16), api.ErrDead}, {dead(100), api.ErrDead},
	} {
		j, err := journal.Open(c.d)
		if err != c.want || (j == nil) != (err != api.OK) {
			t.Errorf("Open of %d sectors, dead %v = %v, error %d; want %d", c.d.Sectors(), c.d.Dead(), j, err, c.want)
		}
	}
}

// TestP8_1RecordSizes appends records of all small sizes, one after the other, and of the sizes at the edges.
func TestP8_1RecordSizes(t *testing.T) {
	d := disk.New(8192)
	j, p := mustOpen(t, d), plain{}
	for n := range 200 {
		b := fill(n, byte(n))
		mustAppend(t, j, b)
		p = p.after(add(b))
	}
	expectEverywhere(t, "small records", d, j, p)
	for _, n := range []int{65534, 65535, 0, 1} {
		b := fill(n, 3)
		mustAppend(t, j, b)
		p = p.after(add(b))
		expectEverywhere(t, "great records", d, j, p)
	}
	for _, n := range []int{65536, 65537, 1 << 20} {
		expectErr(t, "Append", j.Append(make([]byte, n)), api.ErrSize)
		expectEverywhere(t, "too great a record", d, j, p)
	}
}

func TestP8_1StateSizes(t *testing.T) {
	d := disk.New(65536)
	j, p := mustOpen(t, d), plain{}
	for _, n := range []int{0, 1, 1048575, 1048576, 58, 59, 60, 123, 124, 0} {
		mustAppend(t, j, []byte("gone"))
		mustCompact(t, j, fill(n, byte(n)))
		p = plain{state: fill(n, byte(n))}
		expectEverywhere(t, "a state", d, j, p)
		mustAppend(t, j, fill(n%1000, 9))
		p = p.after(add(fill(n%1000, 9)))
		expectEverywhere(t, "a state and a record", d, j, p)
	}
	for _, n := range []int{1048577, 1048578, 1 << 22} {
		expectErr(t, "Compact", j.Compact(make([]byte, n)), api.ErrSize)
		expectEverywhere(t, "too great a state", d, j, p)
	}
}

// TestP8_1GreatestStates tries the greatest state that a disk has room for, and one byte more.
func TestP8_1GreatestStates(t *testing.T) {
	for _, n := range []int{16, 17, 18, 19, 20, 33, 64, 999, 32775, 32776, 32777, 65536} {
		d := disk.New(n)
		j, p := mustOpen(t, d), plain{}
		most := min(32*n-256, 1048576)
		for _, size := range []int{most - 1, most, 1, most} {
			mustCompact(t, j, fill(size, byte(n)))
			p = p.after(replace(fill(size, byte(n))))
			expectEverywhere(t, "a great state", d, j, p)
		}
		want := api.ErrFull
		if most == 1048576 {
			want = api.ErrSize
		}
		expectErr(t, "Compact", j.Compact(make([]byte, most+1)), want)
		expectErr(t, "Compact", j.Compact(make([]byte, 1048577)), api.ErrSize)
		expectEverywhere(t, "too great a state", d, j, p)
	}
}

// TestP8_1ManyChanges makes many changes on small disks, and asks after each one for all that should be there.
func TestP8_1ManyChanges(t *testing.T) {
	for _, n := range []int{16, 17, 25, 60} {
		d := disk.New(n)
		j, p := mustOpen(t, d), plain{}
		for i := range 120 {
			c := add(fill(i*i%97, byte(i)))
			if i%9 == 8 || len(c.bytes) > j.Room() {
				c = replace(fill(i*i%(32*n-255), byte(i)))
			}
			if err := c.run(j); err != api.OK {
				t.Fatalf("change %d = %d", i, err)
			}
			p = p.after(c)
			expectEverywhere(t, "many changes", d, j, p)
			if i%4 == 0 {
				j = mustOpen(t, d)
			}
		}
	}
}

func TestP8_1ErrorsInOrder(t *testing.T) {
	d := disk.New(20)
	j := mustOpen(t, d)
	mustAppend(t, j, []byte("here"))
	p := plain{records: [][]byte{[]byte("here")}}
	ask := func(least api.Errno) {
		t.Helper()
		expectErr(t, "a record that is too great", j.Append(make([]byte, 65536)), api.ErrSize)
		expectErr(t, "no room for a record", j.Append(make([]byte, j.Room()+1)), api.ErrFull)
		expectErr(t, "no room for the greatest record", j.Append(make([]byte, 65535)), api.ErrFull)
		expectErr(t, "a state that is too great", j.Compact(make([]byte, 1048577)), api.ErrSize)
		expectErr(t, "no room for a state", j.Compact(make([]byte, 32*20-255)), api.ErrFull)
		expectErr(t, "no room for the greatest state", j.Compact(make([]byte, 1048576)), api.ErrFull)
		p.expect(t, "errors", j)
	}
	ask(api.OK)
	expectEverywhere(t, "errors", d, j, p)
	d.Arm(0)
	d.Sync()
	ask(api.ErrDead)
	expectErr(t, "a record on a dead disk", j.Append(nil), api.ErrDead)
	expectErr(t, "a state on a dead disk", j.Compact(nil), api.ErrDead)
	p.expect(t, "a dead disk", j)
	d.Crash(0, 0)
	p.expect(t, "after the crash", mustOpen(t, d))
}

// TestP8_1AnyDisk opens disks that something else has written: nothing is said of what they hold, but each call ends.
func TestP8_1AnyDisk(t *testing.T) {
	for _, b := range []byte{1, 2, 3, 63, 64, 127, 128, 255} {
		for _, whole := range []int{1, 4, 8, 12, 63, 64} {
			d := disk.New(17)
			for i := range 17 {
				d.Write(i, bytes.Repeat([]byte{b}, whole))
				if whole < 63 {
					d.Write(i, append(bytes.Repeat([]byte{b}, whole), bytes.Repeat([]byte{0, b}, 32)[whole:]...))
				}
			}
			d.Sync()
			j, err := journal.Open(d)
			if err != api.OK {
				t.Fatalf("Open = error %d", err)
			}
			j.State()
			j.Records()
			j.Append(make([]byte, max(j.Room(), 0)))
			j.Compact(fill(256, b))
			j.Append(nil)
		}
	}
}

// expectRoom: Room is at least that, and says just what is accepted.
func expectRoom(t *testing.T, d *disk.Disk, j *journal.Journal, least int) {
	t.Helper()
	room := j.Room()
	if room < min(max(least, -1), 65535) || room < -1 || room > 65535 {
		t.Fatalf("Room of %d sectors after %d bytes and %d records = %d; want at least %d", d.Sectors(), len(j.State()), len(j.Records()), room, least)
	}
	want := api.ErrFull
	if room == 65535 {
		want = api.ErrSize
	}
	expectErr(t, "a byte more than Room", j.Append(make([]byte, room+1)), want)
	if j.Room() != room {
		t.Fatalf("an error made Room %d; want %d", j.Room(), room)
	}
	u := mustOpen(t, d.Twin())
	if u.Room() != room {
		t.Fatalf("opened again, Room is %d; want %d", u.Room(), room)
	}
	if room >= 0 {
		mustAppend(t, u, make([]byte, room))
	}
}

// expectShrinks appends a record, which makes Room smaller by no more than it may.
func expectShrinks(t *testing.T, d *disk.Disk, j *journal.Journal, size int) {
	t.Helper()
	room := j.Room()
	mustAppend(t, j, fill(size, 1))
	least := room - size - 128
	if room == 65535 {
		least = -1
	}
	expectRoom(t, d, j, least)
}

func TestP8_3RoomAfterAnyState(t *testing.T) {
	for n := 16; n < 40; n++ {
		d := disk.New(n)
		j := mustOpen(t, d)
		expectRoom(t, d, j, 32*n-256)
		for s := range 32*n - 255 {
			mustCompact(t, j, fill(s, 1))
			expectRoom(t, d, j, 32*n-256-s)
		}
	}
}

func TestP8_3RoomOfGreatDisks(t *testing.T) {
	for _, n := range []int{2055, 2056, 2057, 4000, 4104, 32776, 65535, 65536} {
		d := disk.New(n)
		j := mustOpen(t, d)
		expectRoom(t, d, j, 32*n-256)
		most := min(32*n-256, 1048576)
		for _, s := range []int{0, 1, most - 65600, most - 65535, most - 200, most - 1, most} {
			mustCompact(t, j, make([]byte, max(s, 0)))
			expectRoom(t, d, j, 32*n-256-max(s, 0))
		}
	}
}

// TestP8_3RoomRecordByRecord fills disks with records of one size, then with what Room says, to the end.
func TestP8_3RoomRecordByRecord(t *testing.T) {
	for _, n := range []int{16, 17, 31, 64, 150} {
		for _, size := range []int{0, 1, 58, 59, 60, 61, 62, 63, 64, 65, 100, 123, 124, 128, 200} {
			for _, state := range []int{-1, 0, 77} {
				d := disk.New(n)
				j := mustOpen(t, d)
				if state >= 0 {
					mustCompact(t, j, fill(state, 1))
				}
				for j.Room() >= size {
					expectShrinks(t, d, j, size)
				}
				for j.Room() >= 0 {
					expectShrinks(t, d, j, j.Room())
				}
				expectErr(t, "a record of no bytes in no room", j.Append(nil), api.ErrFull)
			}
		}
	}
}

func TestP8_3RoomIsLimited(t *testing.T) {
	d := disk.New(10000)
	j := mustOpen(t, d)
	for range 3 {
		if j.Room() != 65535 {
			t.Fatalf("Room() = %d", j.Room())
		}
		mustAppend(t, j, make([]byte, 65535))
	}
	expectRoom(t, d, j, 32*10000-256-3*(65535+128))
	for j.Room() >= 0 {
		expectShrinks(t, d, j, min(j.Room(), 10000))
	}
}

func TestP8_3RoomAfterCompact(t *testing.T) {
	d := disk.New(20)
	j := mustOpen(t, d)
	for i := range 10 {
		for j.Room() >= 0 {
			mustAppend(t, j, nil)
		}
		mustCompact(t, j, fill(10*i, 1))
		expectRoom(t, d, j, 32*20-256-10*i)
	}
}

func TestP8_4Arguments(t *testing.T) {
	d := disk.New(100)
	j := mustOpen(t, d)
	room := bytes.Repeat([]byte("r"), 200)
	mustCompact(t, j, room[:70])
	mustAppend(t, j, room[:90])
	mustAppend(t, j, room[:0])
	if !bytes.Equal(room, bytes.Repeat([]byte("r"), 200)) {
		t.Errorf("an argument was changed: %q", room)
	}
	p := plain{bytes.Repeat([]byte("r"), 70), [][]byte{bytes.Repeat([]byte("r"), 90), nil}}
	for i := range room {
		room[i] = 'X'
	}
	expectEverywhere(t, "arguments that changed later", d, j, p)
}

// scribble overwrites a list, and what lies behind it.
func scribble(b []byte) {
	b = b[:cap(b)]
	for i := range b {
		b[i] = '!'
	}
}

func TestP8_4Results(t *testing.T) {
	d := disk.New(100)
	j := mustOpen(t, d)
	mustCompact(t, j, fill(70, 1))
	mustAppend(t, j, fill(90, 2))
	mustAppend(t, j, fill(5, 3))
	p := plain{fill(70, 1), [][]byte{fill(90, 2), fill(5, 3)}}
	for range 2 {
		state, records := j.State(), j.Records()
		scribble(state)
		scribble(records[0])
		if !bytes.Equal(records[1], p.records[1]) {
			t.Error("two records share memory")
		}
		scribble(records[1])
		records[0], records[1] = nil, nil
		_ = append(records, []byte("more"))
		expectEverywhere(t, "results that changed", d, j, p)
		mustAppend(t, j, []byte("one more"))
		p = p.after(add([]byte("one more")))
		expectEverywhere(t, "results that changed, and a record", d, j, p)
		j = mustOpen(t, d)
	}
}

func TestP8_1RoomAtTheEnds(t *testing.T) {
	d := disk.New(16)
	j := mustOpen(t, d)
	p := plain{}
	for j.Room() >= 0 {
		b := fill(min(j.Room(), 100), 5)
		mustAppend(t, j, b)
		p = p.after(add(b))
		expectEverywhere(t, "a disk that fills", d, j, p)
	}
	for range 3 {
		expectErr(t, "a full disk", j.Append(nil), api.ErrFull)
		expectEverywhere(t, "a full disk", d, j, p)
	}
	mustCompact(t, j, fill(256, 6))
	expectEverywhere(t, "a full disk, and a state", d, j, plain{state: fill(256, 6)})
	if j.Room() < 0 || math.MaxUint16 < j.Room() {
		t.Errorf("Room() = %d", j.Room())
	}
}
