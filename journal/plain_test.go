package journal_test

import (
	"bytes"
	"testing"

	"strongbox/api"
	"strongbox/disk"
	"strongbox/journal"
)

// plain is what a journal should hold.
type plain struct {
	state   []byte
	records [][]byte
}

// change is a call of Append, or of Compact.
type change struct {
	compact bool
	bytes   []byte
}

func add(b []byte) change { return change{false, b} }

func replace(b []byte) change { return change{true, b} }

// after returns what a journal should hold after a change.
func (p plain) after(c change) plain {
	if c.compact {
		return plain{state: c.bytes}
	}
	return plain{p.state, append(p.records[:len(p.records):len(p.records)], c.bytes)}
}

// run makes the change.
func (c change) run(j *journal.Journal) api.Errno {
	if c.compact {
		return j.Compact(c.bytes)
	}
	return j.Append(c.bytes)
}

// holds: does the journal hold just that?
func (p plain) holds(j *journal.Journal) bool {
	records := j.Records()
	if !bytes.Equal(j.State(), p.state) || len(records) != len(p.records) {
		return false
	}
	for i, r := range records {
		if !bytes.Equal(r, p.records[i]) {
			return false
		}
	}
	return true
}

// expect: the journal holds just that.
func (p plain) expect(t *testing.T, what string, j *journal.Journal) {
	t.Helper()
	if !p.holds(j) {
		t.Fatalf("%s: %s; want %s", what, show(j.State(), j.Records()), show(p.state, p.records))
	}
}

// show is a state and records as a text.
func show(state []byte, records [][]byte) string {
	s := "state " + brief(state) + ", records"
	for _, r := range records {
		s += " " + brief(r)
	}
	return s
}

func brief(b []byte) string {
	if len(b) > 12 {
		return string(b[:12]) + ".."
	}
	return "\"" + string(b) + "\""
}

func mustOpen(t *testing.T, d *disk.Disk) *journal.Journal {
	t.Helper()
	j, err := journal.Open(d)
	if err != api.OK {
		t.Fatalf("Open = error %d", err)
	}
	return j
}

func mustAppend(t *testing.T, j *journal.Journal, b []byte) {
	t.Helper()
	if err := j.Append(b); err != api.OK {
		t.Fatalf("Append of %d bytes = %d; Room %d", len(b), err, j.Room())
	}
}

func mustCompact(t *testing.T, j *journal.Journal, b []byte) {
	t.Helper()
	if err := j.Compact(b); err != api.OK {
		t.Fatalf("Compact of %d bytes = %d", len(b), err)
	}
}

func expectErr(t *testing.T, what string, got, want api.Errno) {
	t.Helper()
	if got != want {
		t.Errorf("%s: error %d; want %d", what, got, want)
	}
}

// fill returns n bytes, none of them zero, that tell who wrote them.
func fill(n int, seed byte) []byte {
	b := make([]byte, n)
	for i := range b {
		b[i] = seed + byte(i%7)
	}
	return b
}

// expectEverywhere: the journal and what is opened from its disk, as it is or after a crash, hold just that.
func expectEverywhere(t *testing.T, what string, d *disk.Disk, j *journal.Journal, p plain) {
	t.Helper()
	p.expect(t, what, j)
	p.expect(t, what+", opened again", mustOpen(t, d.Twin()))
	u := d.Twin()
	u.Crash(0, 0)
	p.expect(t, what+", opened after a crash", mustOpen(t, u))
}
