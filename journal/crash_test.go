package journal_test

import (
	"bytes"
	"slices"
	"testing"

	"strongbox/api"
	"strongbox/disk"
	"strongbox/journal"
)

// tears are the lengths torn that are tried everywhere.
func tears() []int { return []int{0, 1, 2, 3, 4, 5, 7, 8, 9, 12, 31, 33, 62, 63} }

// crashes calls with a copy of the disk for all that a crash can keep, and many lengths torn.
func crashes(d *disk.Disk, each func(u *disk.Disk)) {
	for keep := range d.Pending() + 1 {
		for _, torn := range tears() {
			u := d.Twin()
			u.Crash(keep, torn)
			each(u)
			if keep == d.Pending() {
				break
			}
		}
	}
}

// deaths makes a change, in which the disk dies at each of its calls in turn, and calls with each of these disks.
func deaths(t *testing.T, d *disk.Disk, c change, each func(u *disk.Disk)) {
	t.Helper()
	for n := 0; ; n++ {
		u := d.Twin()
		j := mustOpen(t, u)
		u.Arm(n)
		err := c.run(j)
		if err == api.OK {
			return
		}
		if err != api.ErrDead {
			t.Fatalf("a change on a disk that dies = %d", err)
		}
		each(u)
	}
}

// openings calls with the journal that is opened at last, the disk dying in Open at each of its calls in turn, and with all that the crash then keeps.
func openings(t *testing.T, d *disk.Disk, each func(u *disk.Disk, j *journal.Journal)) {
	t.Helper()
	for n := 0; ; n++ {
		u := d.Twin()
		u.Arm(n)
		j, err := journal.Open(u)
		if err == api.OK {
			u.Arm(-1)
			each(u, j)
			return
		}
		if err != api.ErrDead || j != nil {
			t.Fatalf("Open of a disk that dies = %v, error %d", j, err)
		}
		crashes(u, func(v *disk.Disk) { each(v, mustOpen(t, v)) })
	}
}

// expectOneOf: what is there is one of the two, which is returned, and it is there again when it is opened again.
func expectOneOf(t *testing.T, d *disk.Disk, j *journal.Journal, before, after plain) plain {
	t.Helper()
	p := before
	if after.holds(j) {
		p = after
	}
	p.expect(t, "after a death and a crash", j)
	p.expect(t, "after a death and a crash, opened again", mustOpen(t, d))
	return p
}

// history is a run of changes on a small disk, so that both halves are used again and again.
func history() []change {
	return []change{
		add([]byte("a")), add(nil), add(fill(150, 1)), replace([]byte("s")), add(fill(59, 2)), add(fill(60, 3)),
		replace(fill(200, 4)), add([]byte("b")), replace(nil), add(fill(64, 5)), replace(fill(59, 6)), replace(fill(256, 7)), add(nil), replace(fill(100, 8)), add([]byte("c")),
	}
}

// TestP8_2EveryDeath: wherever the disk dies, whatever is kept and torn, also within the Open that follows, what is there is what was there ahead of the call, or behind it; and what is done next is there, and only that.
func TestP8_2EveryDeath(t *testing.T) {
	for _, n := range []int{16, 17} {
		d := disk.New(n)
		j, before := mustOpen(t, d), plain{}
		for _, c := range history() {
			after := before.after(c)
			deaths(t, d, c, func(u *disk.Disk) {
				crashes(u, func(v *disk.Disk) {
					openings(t, v, func(w *disk.Disk, j *journal.Journal) {
						p := expectOneOf(t, w, j, before, after)
						next(t, w, j, p)
					})
				})
			})
			if err := c.run(j); err != api.OK {
				t.Fatalf("a change = %d", err)
			}
			before = after
			expectEverywhere(t, "a history", d, j, before)
		}
	}
}

// next appends a record if there is room, and replaces the state twice.
func next(t *testing.T, d *disk.Disk, j *journal.Journal, p plain) {
	t.Helper()
	if j.Room() >= 0 {
		mustAppend(t, j, []byte{})
		p = p.after(add(nil))
		p.expect(t, "a record after a crash", mustOpen(t, d))
	}
	for _, s := range []string{"one", ""} {
		mustCompact(t, j, []byte(s))
		p = p.after(replace([]byte(s)))
		p.expect(t, "a state after a crash", mustOpen(t, d))
	}
}

// TestP8_2TwoDeaths lets the disk die in a change, and again in another one after it was opened.
func TestP8_2TwoDeaths(t *testing.T) {
	for _, first := range []change{add(fill(130, 1)), replace(fill(130, 2))} {
		for _, second := range []change{add(fill(5, 3)), add(fill(70, 3)), replace(fill(70, 4))} {
			twoDeaths(t, first, second)
		}
	}
}

func twoDeaths(t *testing.T, first, second change) {
	t.Helper()
	d := disk.New(22)
	j := mustOpen(t, d)
	mustCompact(t, j, []byte("old"))
	mustCompact(t, j, []byte("state"))
	mustAppend(t, j, []byte("r"))
	before := plain{[]byte("state"), [][]byte{[]byte("r")}}
	deaths(t, d, first, func(u *disk.Disk) {
		crashes(u, func(v *disk.Disk) {
			between := expectOneOf(t, v, mustOpen(t, v), before, before.after(first))
			deaths(t, v, second, func(w *disk.Disk) {
				crashes(w, func(x *disk.Disk) {
					expectOneOf(t, x, mustOpen(t, x), between, between.after(second))
				})
			})
		})
	})
}

// TestP8_2Accepted: what was accepted stays whatever a crash keeps, as nothing waits to be made durable.
func TestP8_2Accepted(t *testing.T) {
	d := disk.New(60)
	j, p := mustOpen(t, d), plain{}
	for i := range 40 {
		c := add(fill(i, byte(i)))
		if i%8 == 7 || j.Room() < i {
			c = replace(fill(i*9, byte(i)))
		}
		if err := c.run(j); err != api.OK {
			t.Fatalf("a change = %d", err)
		}
		p = p.after(c)
		crashes(d, func(u *disk.Disk) { p.expect(t, "what was accepted", mustOpen(t, u)) })
		d.Crash(i, i)
		p.expect(t, "the journal after a crash in which nothing was lost", j)
	}
}

// TestP8_2ManyStates replaces the state so often that whatever counts states takes up more bytes, and lets the disk die at the end of each change.
func TestP8_2ManyStates(t *testing.T) {
	d := disk.New(16)
	j, before := mustOpen(t, d), plain{}
	for i := range 600 {
		c := replace(fill(i%80, byte(i)))
		after := before.after(c)
		deaths(t, d, c, func(u *disk.Disk) {
			for torn := range 12 {
				v := u.Twin()
				v.Crash(u.Pending()-1, torn)
				next(t, v, mustOpen(t, v), expectOneOf(t, v, mustOpen(t, v), before, after))
			}
		})
		mustCompact(t, j, c.bytes)
		before = after
		before.expect(t, "many states", mustOpen(t, d))
	}
}

// TestP8_2DeathsOfGreatChanges lets the disk die at some of the calls of great changes.
func TestP8_2DeathsOfGreatChanges(t *testing.T) {
	d := disk.New(4500)
	j := mustOpen(t, d)
	mustCompact(t, j, fill(300, 1))
	mustCompact(t, j, fill(100, 2))
	mustAppend(t, j, fill(10, 3))
	before := plain{fill(100, 2), [][]byte{fill(10, 3)}}
	for _, c := range []change{add(fill(65535, 4)), replace(fill(140000, 5))} {
		for n := range 2200 {
			if n%61 == 0 || n > 1015 && n < 1035 || n > 2180 {
				greatDeath(t, d, c, n, before)
			}
		}
	}
}

// greatDeath makes a change, in which the disk dies at its call n if there are so many.
func greatDeath(t *testing.T, d *disk.Disk, c change, n int, before plain) {
	t.Helper()
	u := d.Twin()
	j := mustOpen(t, u)
	u.Arm(n)
	if err := c.run(j); err == api.OK {
		before.after(c).expect(t, "a great change", mustOpen(t, u))
		return
	}
	for _, torn := range []int{0, 40, 63} {
		for _, lost := range []int{0, 1, 2} {
			v := u.Twin()
			v.Crash(max(u.Pending()-lost, 0), torn)
			expectOneOf(t, v, mustOpen(t, v), before, before.after(c))
		}
	}
}

// contents returns all that is on a disk.
func contents(d *disk.Disk) []byte {
	var all []byte
	for i := range d.Sectors() {
		b, _ := d.Read(i)
		all = append(all, b...)
	}
	return all
}

// TestP8_2OldBytes appends a record that holds the bytes of a disk with other records, at every shift against the sectors, and lets the disk die when all of it but its beginning can be there. Nothing of it comes back once something shorter is written over its beginning.
func TestP8_2OldBytes(t *testing.T) {
	d := disk.New(64)
	j := mustOpen(t, d)
	mustAppend(t, j, []byte("here"))
	other := d.Twin()
	k := mustOpen(t, other)
	for range 8 {
		mustAppend(t, k, []byte("ghost"))
	}
	bait := contents(other)
	for shift := range 64 {
		record := slices.Concat(make([]byte, shift), bait[:900])
		deaths(t, d, add(record), func(u *disk.Disk) {
			for _, keep := range []int{u.Pending() - 2, u.Pending() - 1, u.Pending()} {
				v := u.Twin()
				v.Crash(max(keep, 0), 0)
				l := mustOpen(t, v)
				p := expectOneOf(t, v, l, plain{records: [][]byte{[]byte("here")}}, plain{records: [][]byte{[]byte("here"), record}})
				next(t, v, l, p)
			}
		})
	}
}

// TestP8_2OldStates writes states that hold the bytes of disks with other states and records.
func TestP8_2OldStates(t *testing.T) {
	d := disk.New(48)
	j := mustOpen(t, d)
	for i := range 6 {
		mustCompact(t, j, fill(20*i, 1))
		mustAppend(t, j, []byte("ghost"))
		mustAppend(t, j, []byte("ghost"))
		bait := contents(d)
		for shift := range 64 {
			b := slices.Concat(bytes.Repeat([]byte{1}, shift), bait[:32*48-256-64])
			v := d.Twin()
			k := mustOpen(t, v)
			mustCompact(t, k, b)
			plain{state: b}.expect(t, "a state with the bytes of a disk", mustOpen(t, v))
			mustCompact(t, k, nil)
			mustCompact(t, k, nil)
			mustAppend(t, k, nil)
			plain{records: [][]byte{nil}}.expect(t, "what was written over it", mustOpen(t, v))
		}
	}
}
