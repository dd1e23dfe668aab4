package vm_test

import (
	"bytes"
	"crypto/sha256"
	"encoding/hex"
	"math/big"
	"slices"
	"strings"
	"testing"

	"strongbox/api"
	"strongbox/curve"
	"strongbox/hash"
	"strongbox/script"
	"strongbox/sighash"
	"strongbox/vm"
)

// hexed returns the bytes whose digits a text has, beside spaces.
func hexed(s string) []byte {
	b, err := hex.DecodeString(strings.ReplaceAll(s, " ", ""))
	if err != nil {
		panic(err)
	}
	return b
}

// items returns the items of a text: their digits, or a point for the empty one.
func items(s string) [][]byte {
	var list [][]byte
	for _, word := range strings.Fields(s) {
		list = append(list, hexed(strings.Trim(word, ".")))
	}
	return list
}

// fill returns n bytes that tell the places of a list apart.
func fill(n int, seed byte) []byte {
	b := make([]byte, n)
	for i := range b {
		b[i] = seed + byte(i*7)
	}
	return b
}

// many returns n different items.
func many(n int) [][]byte {
	var list [][]byte
	for i := range n {
		list = append(list, []byte{byte(i), byte(i >> 8), 1})
	}
	return list
}

// expectRun: a script leaves these items, and the model says so, too.
func expectRun(t *testing.T, s []byte, stack [][]byte, set vm.Setting, want ...[]byte) {
	t.Helper()
	got, err := runBoth(t, s, stack, set)
	if err != api.OK || !slices.EqualFunc(got, want, bytes.Equal) {
		t.Errorf("Run(%.200x, %d items %.60x) = %d items %.60x, error %d; want %d items %.60x", s, len(stack), stack, len(got), got, err, len(want), want)
	}
}

// expectFail: a script fails, and the model says so, too.
func expectFail(t *testing.T, s []byte, stack [][]byte, set vm.Setting) {
	t.Helper()
	if got, err := runBoth(t, s, stack, set); err != api.ErrScript || len(got) > 0 {
		t.Errorf("Run(%.200x, %d items %.60x) = %d items %.60x, error %d; want ErrScript", s, len(stack), stack, len(got), got, err)
	}
}

// expectEither: a script leaves these items if it is said to succeed, and otherwise fails.
func expectEither(t *testing.T, succeeds bool, s []byte, stack [][]byte, set vm.Setting, want ...[]byte) {
	t.Helper()
	if succeeds {
		expectRun(t, s, stack, set, want...)
	} else {
		expectFail(t, s, stack, set)
	}
}

// runBoth returns what Run does, which is what the model does.
func runBoth(t *testing.T, s []byte, stack [][]byte, set vm.Setting) ([][]byte, api.Errno) {
	t.Helper()
	got, err := vm.Run(s, stack, set)
	want, ok := plainRun(s, stack, set)
	if (err == api.OK) != ok || err != api.OK && err != api.ErrScript || !slices.EqualFunc(got, want, bytes.Equal) {
		t.Fatalf("Run(%.300x, %d items %.60x) = %d items %.60x, error %d; the model: %d items %.60x, %v", s, len(stack), stack, len(got), got, err, len(want), want, ok)
	}
	return got, err
}

// The states of a branch in the model.
const (
	on  = iota
	off // the other branch is executed
	dead
)

// plain is the machine as the document says it, operation by operation; bad says that something failed.
type plain struct {
	set       vm.Setting
	s         []byte
	st, other [][]byte
	branches  []int
	ops, sigs int
	bad       bool
}

func plainRun(s []byte, stack [][]byte, set vm.Setting) ([][]byte, bool) {
	ops, err := script.Parse(s)
	if err != api.OK || len(s) > 10000 || len(stack) > 1000 {
		return nil, false
	}
	p := &plain{set: set, s: s}
	for _, item := range stack {
		p.bad = p.bad || len(item) > 520
		p.st = append(p.st, item)
	}
	for _, op := range ops {
		if op.Code > 0x60 {
			p.ops++
		}
		live := len(p.branches) == 0 || p.branches[len(p.branches)-1] == on
		switch {
		case len(op.Data) > 520 || op.Code == 0x65 || op.Code == 0x66:
			p.bad = true
		case op.Code == 0x63 || op.Code == 0x64 || op.Code == 0x67 || op.Code == 0x68:
			p.branch(op.Code, live)
		case live:
			p.act(op.Code, op.Data)
		}
		if p.bad || p.ops > 201 || p.sigs > 20 || len(p.st)+len(p.other) > 1000 {
			return nil, false
		}
	}
	if p.bad || len(p.branches) > 0 {
		return nil, false
	}
	return p.st, true
}

func (p *plain) branch(code byte, live bool) {
	last := len(p.branches) - 1
	switch {
	case code <= 0x64 && !live:
		p.branches = append(p.branches, dead)
	case code <= 0x64:
		state := on
		if plainTrue(p.pop()) != (code == 0x63) {
			state = off
		}
		p.branches = append(p.branches, state)
	case last < 0:
		p.bad = true
	case code == 0x68:
		p.branches = p.branches[:last]
	case p.branches[last] != dead:
		p.branches[last] = on + off - p.branches[last]
	}
}

func (p *plain) pop() []byte {
	if len(p.st) == 0 {
		p.bad = true
		return nil
	}
	item := p.st[len(p.st)-1]
	p.st = p.st[:len(p.st)-1]
	return item
}

func (p *plain) push(list ...[]byte) { p.st = append(slices.Clone(p.st), list...) }

// at returns the place of the item n below the top.
func (p *plain) at(n int) int {
	if n < 0 || n >= len(p.st) {
		p.bad = true
		return -1
	}
	return len(p.st) - 1 - n
}

// again pushes the item n below the top, and again and move do so often: each time it is another one's turn.
func (p *plain) again(n, times int) {
	for range times {
		if i := p.at(n); i >= 0 {
			p.push(p.st[i])
		}
	}
}

func (p *plain) move(n, times int) {
	for range times {
		if i := p.at(n); i >= 0 {
			item := p.st[i]
			p.st = append(slices.Concat(p.st[:i], p.st[i+1:]), item)
		}
	}
}

func (p *plain) num() int64 {
	n, ok := plainNumber(p.pop(), 4)
	p.bad = p.bad || !ok
	return n
}

func (p *plain) truth(b bool) {
	if b {
		p.push([]byte{1})
	} else {
		p.push(nil)
	}
}

// sure fails if the top, which it pops, isn't true.
func (p *plain) sure() { p.bad = !plainTrue(p.pop()) || p.bad }

func (p *plain) act(code byte, data []byte) {
	switch {
	case code <= 0x4e:
		p.push(data)
	case code == 0x4f:
		p.push([]byte{0x81})
	case code >= 0x51 && code <= 0x60:
		p.push([]byte{code - 0x50})
	case code == 0x61 || code == 0xb0 || code >= 0xb3 && code <= 0xb9:
	case code >= 0x69 && code <= 0x82:
		p.shift(code)
	case code == 0x87:
		p.truth(string(p.pop()) == string(p.pop()))
	case code >= 0x8b && code <= 0x92:
		p.one(code)
	case code >= 0x93 && code <= 0xa4:
		p.two(code)
	case code == 0xa5:
		c, b, a := p.num(), p.num(), p.num()
		p.truth(a >= b && a < c)
	case code >= 0xa6 && code <= 0xaa:
		p.digest(code)
	case code == 0xac:
		key, sig := p.pop(), p.pop()
		p.truth(p.valid(sig, key))
	case code == 0xae:
		p.multi()
	case code == 0x88 || code == 0xad || code == 0xaf:
		p.act(code-1, nil)
		p.sure()
	case code == 0xb1 || code == 0xb2:
		p.lock(code)
	default:
		p.bad = true
	}
}

func (p *plain) shift(code byte) {
	switch code {
	case 0x69:
		p.sure()
	case 0x6b:
		p.other = append(p.other, p.pop())
	case 0x6c:
		if len(p.other) == 0 {
			p.bad = true
			return
		}
		p.push(p.other[len(p.other)-1])
		p.other = p.other[:len(p.other)-1]
	case 0x6d:
		p.pop()
		p.pop()
	case 0x6e:
		p.again(1, 2)
	case 0x6f:
		p.again(2, 3)
	case 0x70:
		p.again(3, 2)
	case 0x71:
		p.move(5, 2)
	case 0x72:
		p.move(3, 2)
	case 0x73:
		if i := p.at(0); i >= 0 && plainTrue(p.st[i]) {
			p.push(p.st[i])
		}
	case 0x74:
		p.push(plainItem(int64(len(p.st))))
	case 0x75:
		p.pop()
	case 0x76:
		p.again(0, 1)
	case 0x77:
		p.move(1, 1)
		p.pop()
	case 0x78:
		p.again(1, 1)
	case 0x79:
		p.again(int(p.num()), 1)
	case 0x7a:
		p.move(int(p.num()), 1)
	case 0x7b:
		p.move(2, 1)
	case 0x7c:
		p.move(1, 1)
	case 0x7d:
		p.move(1, 1)
		p.again(1, 1)
	case 0x82:
		if i := p.at(0); i >= 0 {
			p.push(plainItem(int64(len(p.st[i]))))
		}
	default:
		p.bad = true
	}
}

func (p *plain) one(code byte) {
	x := p.num()
	switch code {
	case 0x8b:
		p.push(plainItem(x + 1))
	case 0x8c:
		p.push(plainItem(x - 1))
	case 0x8f:
		p.push(plainItem(0 - x))
	case 0x90:
		if x < 0 {
			x = 0 - x
		}
		p.push(plainItem(x))
	case 0x91:
		p.truth(x == 0)
	case 0x92:
		p.truth(x != 0)
	default:
		p.bad = true
	}
}

func (p *plain) two(code byte) {
	b, a := p.num(), p.num()
	switch code {
	case 0x93:
		p.push(plainItem(a + b))
	case 0x94:
		p.push(plainItem(a - b))
	case 0x9a:
		p.truth(a*b != 0)
	case 0x9b:
		p.truth(a|b != 0)
	case 0x9c:
		p.truth(a == b)
	case 0x9d:
		p.bad = p.bad || a != b
	case 0x9e:
		p.truth(a != b)
	case 0x9f:
		p.truth(a < b)
	case 0xa0:
		p.truth(b < a)
	case 0xa1:
		p.truth(!(b < a))
	case 0xa2:
		p.truth(!(a < b))
	case 0xa3:
		p.push(plainItem(slices.Min([]int64{a, b})))
	case 0xa4:
		p.push(plainItem(slices.Max([]int64{a, b})))
	default:
		p.bad = true
	}
}

func (p *plain) digest(code byte) {
	b := p.pop()
	once := sha256.Sum256(b)
	switch code {
	case 0xa6:
		h := hash.Ripemd(b)
		p.push(h[:])
	case 0xa8:
		p.push(once[:])
	case 0xa9:
		h := hash.Ripemd(once[:])
		p.push(h[:])
	case 0xaa:
		twice := sha256.Sum256(once[:])
		p.push(twice[:])
	default:
		p.bad = true
	}
}

func (p *plain) valid(sig, key []byte) bool {
	if len(sig) == 0 || p.bad {
		return false
	}
	p.sigs++
	if len(sig) != 65 || !strings.Contains("\x01\x02\x03\x81\x82\x83", string(sig[64:])) || p.sigs > 20 {
		p.bad = true
		return false
	}
	return curve.Verify(key, digestOf(p.s, p.set, sig[64]), sig[:64])
}

// digestOf returns the digest that a signature of a kind is for.
func digestOf(s []byte, set vm.Setting, kind byte) api.Hash {
	if set.Witness {
		return sighash.Witness(set.Tx, set.Index, s, set.Value, kind)
	}
	return sighash.Legacy(set.Tx, set.Index, s, kind)
}

// list pops a number and that many items, the top one first.
func (p *plain) list(most int) [][]byte {
	n := int(p.num())
	if p.bad || n < 0 || n > most {
		p.bad = true
		return nil
	}
	var list [][]byte
	for range n {
		list = append(list, p.pop())
	}
	return list
}

func (p *plain) multi() {
	keys := p.list(20)
	p.ops += len(keys)
	sigs := p.list(len(keys))
	if empty := p.pop(); p.bad || p.ops > 201 || len(empty) > 0 {
		p.bad = true
		return
	}
	for k := 0; ; k++ {
		if len(sigs) == 0 || len(sigs) > len(keys)-k {
			p.truth(len(sigs) == 0)
			return
		}
		if p.valid(sigs[0], keys[k]) {
			sigs = sigs[1:]
		}
	}
}

func (p *plain) lock(code byte) {
	i := p.at(0)
	if i < 0 {
		return
	}
	n, ok := plainNumber(p.st[i], 5)
	if !ok || n < 0 || p.set.Index < 0 || p.set.Index >= len(p.set.Tx.In) {
		p.bad = true
		return
	}
	if code == 0xb2 && n>>31&1 == 1 {
		return
	}
	seq, lock := p.set.Tx.In[p.set.Index].Seq, int64(p.set.Tx.Lock)
	if code == 0xb1 {
		p.bad = n < 5e8 && lock >= 5e8 || n >= 5e8 && lock < 5e8 || n > lock || seq == 0xffffffff
		return
	}
	v := p.set.Tx.Version
	p.bad = v == 0 || v == 1 || seq>>31 == 1 || n>>22&1 != int64(seq>>22&1) || n%65536 > int64(seq%65536)
}

func plainTrue(b []byte) bool {
	return strings.Trim(string(b), "\x00") != "" && !(strings.TrimLeft(string(b), "\x00") == "\x80")
}

// plainNumber reads a number as Bitcoin does: a last byte without a value must be needed for the sign.
func plainNumber(b []byte, most int) (int64, bool) {
	last := len(b) - 1
	switch {
	case len(b) > most:
		return 0, false
	case last < 0:
		return 0, true
	case b[last]&0x7f == 0 && (last == 0 || b[last-1] < 0x80):
		return 0, false
	}
	n := int64(b[last]&0x7f) << (8 * last)
	for i, x := range b[:last] {
		n += int64(x) << (8 * i)
	}
	if b[last] >= 0x80 {
		n = -n
	}
	return n, true
}

func plainItem(n int64) []byte {
	x := big.NewInt(n)
	b := new(big.Int).Abs(x).Bytes()
	if len(b) > 0 && b[0] >= 0x80 {
		b = append([]byte{0}, b...)
	}
	if x.Sign() < 0 {
		b[0] |= 0x80
	}
	slices.Reverse(b)
	return b
}
