package vm

import "math"

const (
	// firstTime is the least Lock that is a time; what is less is a height.
	firstTime = 500000000
	// noAge is the bit that says, in a Seq or in what is held against one, that it is no age.
	noAge = 1 << 31
	// ageForm is the bit that says how an age is counted, and age are those that count it.
	ageForm, age = 1 << 22, 1<<16 - 1
	// firstAged is the first Version of a transaction for which a Seq can be an age.
	firstAged = 2
)

// lock returns the number that an operation holds against a lock, which remains on the stack, and the Seq of the input that the script is run for. Every lock fails without that input, even one that doesn't ask its Seq.
func (m *machine) lock() (n, seq int64) {
	n = numberOf(m.top(), longNumber)
	insist(n >= 0 && 0 <= m.Index && m.Index < len(m.Tx.In))
	return n, int64(m.Tx.In[m.Index].Seq)
}

// lockTime fails before the height or time that the top says.
func (m *machine) lockTime() {
	n, seq := m.lock()
	lock := int64(m.Tx.Lock)
	insist((n < firstTime) == (lock < firstTime) && n <= lock)
	// A transaction all of whose inputs have this Seq is final whatever its Lock says.
	insist(seq != math.MaxUint32)
}

// lockAge fails unless the input's Seq says at least the age that the top says.
func (m *machine) lockAge() {
	n, seq := m.lock()
	if n&noAge != 0 {
		return
	}
	insist(uint32(m.Tx.Version) >= firstAged && seq&noAge == 0)
	insist(n&ageForm == seq&ageForm && n&age <= seq&age)
}
