package vm_test

import (
	"math"
	"testing"

	"strongbox/api"
	"strongbox/vm"
)

// locked returns a setting with one input, beside others that are not asked.
func locked(version int32, lock, seq uint32) vm.Setting {
	other := api.TxIn{Seq: math.MaxUint32}
	return vm.Setting{Tx: api.Tx{Version: version, Lock: lock, In: []api.TxIn{other, {Seq: seq}, other}}, Index: 1}
}

// expectLock: a lock, which pops nothing, holds or fails.
func expectLock(t *testing.T, holds bool, code byte, item []byte, set vm.Setting) {
	t.Helper()
	expectEither(t, holds, []byte{code}, [][]byte{item}, set, item)
	expectEither(t, holds, []byte{code, 0x51}, [][]byte{{7}, item}, set, []byte{7}, item, []byte{1})
	expectRun(t, []byte{0x00, 0x63, code, 0x68}, [][]byte{item}, set, item)
}

// lockTimes are numbers around those that matter.
func lockTimes() []int64 {
	return []int64{0, 1, 2, 127, 128, 499999998, 499999999, 500000000, 500000001, 500000002, 1<<31 - 1, 1 << 31, 1<<31 + 1, 1<<32 - 2, 1<<32 - 1, 1 << 32, 1<<39 - 1}
}

func TestP13_1LockTime(t *testing.T) {
	for _, n := range lockTimes() {
		for _, lock := range lockTimes() {
			if lock > math.MaxUint32 {
				continue
			}
			for _, seq := range []uint32{0, 1, 1 << 22, 1 << 31, math.MaxUint32 - 1, math.MaxUint32} {
				holds := n <= lock && (n >= 500000000 || lock < 500000000) && seq != math.MaxUint32
				expectLock(t, holds, 0xb1, plainItem(n), locked(0, uint32(lock), seq))
			}
		}
	}
	expectLock(t, true, 0xb1, plainItem(499999999), locked(1, 499999999, 0))
	expectLock(t, false, 0xb1, plainItem(499999999), locked(1, 500000000, 0))
	expectLock(t, false, 0xb1, plainItem(500000000), locked(1, 499999999, 0))
	expectLock(t, true, 0xb1, plainItem(500000000), locked(1, 500000000, 0))
}

// ages are numbers with each of the bits that matter, and around what the lowest 16 bits hold.
func ages() []int64 {
	var list []int64
	for _, high := range []int64{0, 1 << 22, 1 << 31, 1<<31 | 1<<22, 1 << 16, 1 << 21, 1<<23 | 1<<30, 1 << 32, 1<<32 | 1<<22, 1<<38 | 1<<31, 1 << 38} {
		for _, low := range []int64{0, 1, 255, 256, 65534, 65535} {
			list = append(list, high|low)
		}
	}
	return list
}

func TestP13_1LockAge(t *testing.T) {
	for _, n := range ages() {
		for _, seq := range append(ages(), math.MaxUint32, math.MaxUint32-1) {
			if seq > math.MaxUint32 {
				continue
			}
			for _, version := range []int32{0, 1, 2, 3, -1, math.MinInt32, math.MaxInt32} {
				aged := version != 0 && version != 1 && seq&(1<<31) == 0
				holds := n&(1<<31) != 0 || aged && n&(1<<22) == seq&(1<<22) && n%65536 <= seq%65536
				expectLock(t, holds, 0xb2, plainItem(n), locked(version, 0, uint32(seq)))
			}
		}
	}
}

// TestP13_1LockItems: no item, a negative one, ones that are no number, and long ones.
func TestP13_1LockItems(t *testing.T) {
	set := locked(2, 499999999, 0xffff)
	for _, code := range []byte{0xb1, 0xb2} {
		expectFail(t, []byte{code}, nil, set)
		expectFail(t, []byte{0x51, 0x75, code}, nil, set)
		for _, negative := range items("81 8080 ff ffffffff 0000008080 ffffffffff 010000c080 0000000081") {
			expectLock(t, false, code, negative, set)
		}
		for _, wrong := range items("00 80 0100 0180 0000 01000000 0100000000 ffff0000 000000000000 010000000000 000000000001 ffffffffff00 ffffffffff7f 00000080000000 0000000000000001") {
			expectLock(t, false, code, wrong, set)
		}
		expectLock(t, true, code, nil, set)
		expectLock(t, true, code, []byte{1}, set)
		expectLock(t, true, code, items("ff00")[0], set)
		// The item remains.
		expectRun(t, []byte{0x51, code, 0x75, 0x52}, nil, set, []byte{2})
		expectRun(t, []byte{code, code, code}, [][]byte{{1}}, set, []byte{1})
	}
	// Five bytes.
	expectLock(t, true, 0xb1, plainItem(1<<32-1), locked(2, math.MaxUint32, 0))
	expectLock(t, true, 0xb1, plainItem(1<<31), locked(2, 1<<31, 0))
	expectLock(t, false, 0xb1, plainItem(1<<31), locked(2, 1<<31-1, 0))
	expectLock(t, false, 0xb1, plainItem(1<<32), locked(2, math.MaxUint32, 0))
	expectLock(t, true, 0xb2, plainItem(1<<31), locked(2, 0, 0))
	expectLock(t, true, 0xb2, plainItem(1<<32), locked(2, 0, 0))
	expectLock(t, true, 0xb2, plainItem(1<<39-1), locked(2, 0, 0))
}

// TestP13_1LockNoInput: a lock fails without the input that the script is run for, whatever its number is.
func TestP13_1LockNoInput(t *testing.T) {
	for _, i := range []int{-1, 3, 4, math.MinInt, math.MaxInt} {
		set := locked(2, 100, 100)
		set.Tx.In[0].Seq, set.Tx.In[2].Seq = 100, 100
		for _, n := range []int64{0, 1, 100, 101} {
			set.Index = 0
			expectLock(t, n <= 100, 0xb1, plainItem(n), set)
			expectLock(t, n <= 100, 0xb2, plainItem(n), set)
			set.Index = i
			expectLock(t, false, 0xb1, plainItem(n), set)
			expectLock(t, false, 0xb2, plainItem(n), set)
		}
		expectLock(t, false, 0xb2, plainItem(-1<<31), set)
	}
}

// TestP13_1LockNoEffect: a number with the bit 2^31 has no effect for B2, whatever Version and Seq are, but fails as any other one without an input.
func TestP13_1LockNoEffect(t *testing.T) {
	for _, n := range []int64{1 << 31, 1<<31 | 1, 1<<31 | 1<<22, 1<<32 - 1, 1<<32 | 1<<31, 1<<39 - 1} {
		for _, version := range []int32{-1, 0, 1, 2} {
			for _, seq := range []uint32{0, 1 << 22, 1 << 31, math.MaxUint32} {
				set := locked(version, math.MaxUint32, seq)
				for i := range set.Tx.In {
					set.Index = i
					expectLock(t, true, 0xb2, plainItem(n), set)
				}
				expectNoInput(t, plainItem(n), set)
			}
		}
	}
	for _, n := range []int64{0, 1, 1 << 31, 1<<39 - 1} {
		expectNoInput(t, plainItem(n), vm.Setting{})
		expectNoInput(t, plainItem(n), vm.Setting{Tx: api.Tx{Version: 2, Lock: math.MaxUint32}})
	}
}

// expectNoInput: both locks fail at each Index without an input.
func expectNoInput(t *testing.T, item []byte, set vm.Setting) {
	t.Helper()
	for _, i := range []int{-1, len(set.Tx.In), len(set.Tx.In) + 1, math.MinInt, math.MaxInt} {
		set.Index = i
		expectLock(t, false, 0xb1, item, set)
		expectLock(t, false, 0xb2, item, set)
	}
}

// TestP13_1LockOtherInputs: only the input that the script is run for is asked.
func TestP13_1LockOtherInputs(t *testing.T) {
	for i := range 3 {
		set := locked(2, 100, 0)
		for j := range set.Tx.In {
			set.Tx.In[j].Seq = uint32(10 * j)
		}
		set.Index = i
		for n := range int64(40) {
			expectLock(t, n <= int64(10*i), 0xb2, plainItem(n), set)
		}
		set.Tx.In[i].Seq = math.MaxUint32
		expectLock(t, false, 0xb1, nil, set)
		for j := range set.Tx.In {
			set.Tx.In[j].Seq = math.MaxUint32
		}
		set.Tx.In[i].Seq--
		expectLock(t, true, 0xb1, nil, set)
	}
}
