package journal

import (
	"slices"

	"strongbox/api"
	"strongbox/disk"
	"strongbox/wire"
)

const (
	// mark is the place of the byte that says of an entry's first sector that it was written. It is the last one because a crash never keeps the last byte of a write that it tears.
	mark = api.Sector - 1
	// prefix is how many bytes an entry's length takes up.
	prefix = 4
	// extra is how many bytes an entry takes up beside its own.
	extra = prefix + 1
	// spare is how many bytes of a half are left for what is beside a state.
	spare = 256
)

// area is a disk with two halves.
type area struct {
	*disk.Disk
}

// half returns how many sectors a half has.
func (a area) half() int { return a.Sectors() / 2 }

// start returns the sector where the half for this state begins.
func (a area) start(number uint64) int { return int(number%2) * a.half() }

// capacity returns how many bytes a state can have.
func (a area) capacity() int { return a.Sectors()*api.Sector/2 - spare }

// number returns the number of the state that is in force, 0 if there is none.
func (a area) number() uint64 { return max(a.numberAt(0), a.numberAt(a.half())) }

// numberAt returns the number in a half's first sector, 0 if there is none. It was written after all that it stands for: whatever a crash leaves of it, if it is the greater one, all of that is there.
func (a area) numberAt(start int) uint64 { return wire.Open(a.content(start)).U64() }

// entry returns the entry that begins at a sector, and the sector behind it, which is at most last.
func (a area) entry(at, last int) (body []byte, next int, ok bool) {
	b := a.content(at)
	size := int(wire.Open(b).U32())
	next = at + span(size)
	if b[mark] == 0 || next > last {
		return nil, at, false
	}
	b = b[:mark]
	for i := at + 1; i < next; i++ {
		b = append(b, a.content(i)...)
	}
	return b[prefix:][:size], next, true
}

// content reads a sector, which always works: the disk has it, and hasn't died.
func (a area) content(at int) []byte {
	b, _ := a.Read(at)
	return b
}

// put writes sectors, the last one first, and makes them durable. Of what isn't durable a crash keeps a beginning: when the first sector, which says that all of it is there, is kept, all of it is.
func (a area) put(at int, list [][]byte) api.Errno {
	for i, s := range slices.Backward(list) {
		if err := a.Write(at+i, s); err != api.OK {
			return err
		}
	}
	return a.Sync()
}

// numbered returns the sector with the number of a state.
func numbered(number uint64) []byte {
	var w wire.Writer
	w.U64(number)
	return w.Out()
}

// sectors returns those of an entry, and an empty one, which says that no other entry is there yet.
func sectors(body []byte) [][]byte {
	var w wire.Writer
	w.U32(uint32(len(body)))
	w.Raw(body...)
	w.Raw(make([]byte, max(mark-prefix-len(body), 0))...)
	b := slices.Insert(w.Out(), mark, 1)
	return append(slices.Collect(slices.Chunk(b, api.Sector)), nil)
}

// span returns how many sectors an entry takes up.
func span(size int) int { return (size + extra + api.Sector - 1) / api.Sector }
