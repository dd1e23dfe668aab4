package vm_test

import (
	"bytes"
	"math/rand"
	"reflect"
	"slices"
	"testing"

	"strongbox/api"
	"strongbox/vm"
)

// spare returns a copy with other bytes behind it.
func spare(b []byte) []byte {
	return append(append(make([]byte, 0, len(b)+9), b...), "spare"...)[:len(b)]
}

// roomy returns a list with spare capacity that is used, as is that of each item.
func roomy(list [][]byte) [][]byte {
	var all [][]byte
	for _, item := range list {
		all = append(all, spare(item))
	}
	return append(all, []byte("spare"), []byte("room"))[:len(list)]
}

// whole returns a copy of all memory of a list, with spare capacity.
func whole(list [][]byte) []string {
	var all []string
	for _, item := range list[:cap(list)] {
		all = append(all, string(item[:cap(item)]))
	}
	return all
}

// wholeTx returns a copy of all memory of a transaction, with that of its lists.
func wholeTx(t api.Tx) []any {
	all := []any{t.Version, t.Lock, len(t.In), len(t.Out)}
	for _, in := range t.In[:cap(t.In)] {
		all = append(all, in.Prev, in.Seq, string(in.Script[:cap(in.Script)]), whole(in.Witness))
	}
	for _, out := range t.Out[:cap(t.Out)] {
		all = append(all, out.Value, string(out.Script[:cap(out.Script)]))
	}
	return all
}

func roomyTx() api.Tx {
	t := settings()[0].Tx
	for i := range t.In {
		t.In[i].Script = spare([]byte{1, 2})
		t.In[i].Witness = roomy(many(2))
		t.Out[i].Script = spare(t.Out[i].Script)
	}
	t.In = append(t.In, api.TxIn{Seq: 99})[:len(t.In)]
	t.Out = append(t.Out, api.TxOut{Value: 99})[:len(t.Out)]
	return t
}

// spoil overwrites all items, and the list.
func spoil(list [][]byte, with byte) {
	for i, item := range list[:cap(list)] {
		item = item[:cap(item)]
		for j := range item {
			item[j] = with
		}
		list[:cap(list)][i] = nil
	}
}

// expectOwn: what is passed is not changed or kept, and no item of a result shares memory with another one.
func expectOwn(t *testing.T, s []byte, stack [][]byte, set vm.Setting) {
	t.Helper()
	given, args := spare(s), roomy(stack)
	set.Tx = roomyTx()
	before := []any{string(given[:cap(given)]), whole(args), wholeTx(set.Tx)}
	unchanged := func() bool {
		return reflect.DeepEqual([]any{string(given[:cap(given)]), whole(args), wholeTx(set.Tx)}, before)
	}
	first, err := vm.Run(given, args, set)
	second, again := vm.Run(given, args, set)
	want := slices.Clone(second)
	for i := range want {
		want[i] = bytes.Clone(want[i])
	}
	if err != again || !slices.EqualFunc(first, second, bytes.Equal) {
		t.Errorf("%x: another result at the second call", s)
	}
	if !unchanged() {
		t.Errorf("%x: an argument was changed", s)
	}
	spoil(first, 0xee)
	if !unchanged() {
		t.Errorf("%x: a result shares memory with an argument", s)
	}
	spoil(args, 0xdd)
	for i := range given[:cap(given)] {
		given[:cap(given)][i] = 0xdd
	}
	if !slices.EqualFunc(second, want, bytes.Equal) {
		t.Errorf("%x: two results share memory, or an argument was kept", s)
	}
	for i, item := range second {
		for j := range item[:cap(item)] {
			item[:cap(item)][j] = byte(i)
		}
	}
	for i, item := range second {
		if !bytes.Equal(item, bytes.Repeat([]byte{byte(i)}, len(item))) {
			t.Errorf("%x: two items share memory", s)
		}
	}
}

func TestP13_3Memory(t *testing.T) {
	for _, set := range settings() {
		for _, a := range acts() {
			stack := slices.Concat(items("616263 646566 . 0102 010203 5152 07 08"), items(a.before))
			expectOwn(t, hexed(a.s), stack, set)
			expectOwn(t, hexed(a.s+"76 76"), stack, set)
			expectOwn(t, hexed(a.s+a.s), stack, set)
			expectOwn(t, join(hexed("00 63"), hexed(a.s), hexed("67 6e 68")), stack, set)
		}
		for _, s := range []string{"", "02 6162 76 76", "6e 6e 70", "6f 71 72", "6b 6b 6c 6c", "6b 76 6c", "75 75 75 61", "02 6162 73 73 79", "6d 6d 51 52 53 54", "78 7d 7b", "6a", "51 7a 7a"} {
			for n := range 9 {
				expectOwn(t, hexed(s), many(n), set)
			}
		}
		s := multiScript(2, 0xae, publics(1, 2, 3)...)
		expectOwn(t, s, signers(s, set, 1, 3), set)
		expectOwn(t, []byte{0x6e, 0xac}, [][]byte{signBy(5, []byte{0x6e, 0xac}, set, 1), publicOf(5)}, set)
		expectOwn(t, []byte{0xb1, 0xb2}, items("01"), set)
	}
}

// TestP13_2Below: a script that pops so many items does the same whatever lies below them, if it doesn't ask how many there are.
func TestP13_2Below(t *testing.T) {
	r := rand.New(rand.NewSource(4))
	both, pool := settings(), randomPool()
	for range 5000 {
		s := randomScript(r, false)
		stack := randomItems(r, pool, 8)
		set := both[r.Intn(2)]
		got, err := vm.Run(s, stack, set)
		for _, below := range [][][]byte{{nil}, {{1}}, many(3), {fill(520, 1), {0x81}}, many(300)} {
			more, moreErr := vm.Run(s, slices.Concat(below, stack), set)
			if err == api.OK && (moreErr != api.OK || !slices.EqualFunc(more, slices.Concat(below, got), bytes.Equal)) {
				t.Fatalf("Run(%x, %x) = %x; with %d items below: %x, error %d", s, stack, got, len(below), more, moreErr)
			}
		}
	}
}

// randomScript returns a script of codes that mostly succeed; some ask for the depth if that is allowed.
func randomScript(r *rand.Rand, depth bool) []byte {
	var s []byte
	open := 0
	for range r.Intn(24) {
		switch n := r.Intn(20); {
		case n < 5:
			s = append(s, byte(0x51+r.Intn(4)))
		case n == 5:
			s = append(s, []byte{0x00, 0x4f, 0x50, 0x60}[r.Intn(40)%4])
		case n == 6:
			s = join(s, pushOf(fill(r.Intn(6), byte(r.Intn(256)))))
		case n == 7:
			s = append(s, []byte{0x63, 0x64}[r.Intn(2)])
			open++
		case n < 10 && open > 0:
			s = append(s, 0x67+byte(r.Intn(2)))
			open -= int(s[len(s)-1] - 0x67)
		case n < 15:
			s = append(s, byte(0x69+r.Intn(0x19)))
		case n < 19:
			s = append(s, byte(0x82+r.Intn(0x38)))
		default:
			s = append(s, byte(r.Intn(256)))
		}
		if !depth && len(s) > 0 && s[len(s)-1] == 0x74 {
			s = s[:len(s)-1]
		}
	}
	return append(s, bytes.Repeat([]byte{0x68}, open)...)
}

// randomPool returns items of which most are numbers.
func randomPool() [][]byte {
	return slices.Concat(numbers(), numbers(), notNumbers(), items(". . . . 01 01 01 02 02 03 04 81"), [][]byte{publicOf(1), append(make([]byte, 64), 1)})
}

func randomItems(r *rand.Rand, pool [][]byte, n int) [][]byte {
	var list [][]byte
	for range r.Intn(n + 1) {
		list = append(list, pool[r.Intn(len(pool))])
	}
	return list
}

// TestP13_1Model: random scripts do what the model does.
func TestP13_1Model(t *testing.T) {
	r := rand.New(rand.NewSource(3))
	succeeded := 0
	both, pool := settings(), randomPool()
	for i := range 100000 {
		s := randomScript(r, true)
		if i%50 == 0 {
			s = fill(r.Intn(40), byte(r.Intn(256)))
			r.Read(s)
		}
		set := both[r.Intn(2)]
		set.Index = r.Intn(5) - 1
		set.Tx.Version = int32(r.Intn(4) - 1)
		if _, err := runBoth(t, s, randomItems(r, pool, 12), set); err == api.OK {
			succeeded++
		}
	}
	if succeeded < 15000 {
		t.Errorf("only %d scripts succeeded", succeeded)
	}
}

// TestP13_1Ends: whatever the arguments are, there is an answer, and no item beside an error.
func TestP13_1Ends(t *testing.T) {
	stacks := [][][]byte{nil, items("01 01 01 01 01 01")}
	for _, set := range []vm.Setting{{}, {Index: -1 << 63, Value: -1 << 63, Witness: true}} {
		for a := range 256 {
			for b := range 256 {
				for _, stack := range stacks {
					if got, err := vm.Run([]byte{byte(a), byte(b)}, stack, set); err != api.OK && (err != api.ErrScript || len(got) > 0) {
						t.Fatalf("Run(%x %x) = %x, error %d", a, b, got, err)
					}
				}
			}
		}
	}
}
