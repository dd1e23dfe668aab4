package hdkey_test

import (
	"bytes"
	"crypto/hmac"
	"crypto/sha512"
	"encoding/hex"
	"math/big"
	"testing"

	"strongbox/api"
	"strongbox/curve"
	"strongbox/hash"
	"strongbox/hdkey"
)

const orderText = "fffffffffffffffffffffffffffffffebaaedce6af48a03bbfd25e8cd0364141"

func unhex(s string) []byte {
	b, err := hex.DecodeString(s)
	if err != nil {
		panic(err)
	}
	return b
}

// privateOf returns a number of 32 bytes as the Data of a private key.
func privateOf(number string) [33]byte {
	return [33]byte(append([]byte{0}, unhex(number)...))
}

// counted returns n bytes that differ from their neighbours.
func counted(n int) []byte {
	b := make([]byte, n)
	for i := range b {
		b[i] = byte(11*i + 5)
	}
	return b
}

// mustMaster returns the master key of a seed of 32 bytes.
func mustMaster(t *testing.T) hdkey.Key {
	t.Helper()
	k, err := hdkey.Master(counted(32))
	if err != api.OK {
		t.Fatalf("Master: error %d", err)
	}
	return k
}

func mustPublic(t *testing.T, k hdkey.Key) hdkey.Key {
	t.Helper()
	p, err := k.Public()
	if err != api.OK {
		t.Fatalf("Public of %x: error %d", k, err)
	}
	return p
}

// expect holds a key and an error against others.
func expect(t *testing.T, what string, got hdkey.Key, err api.Errno, want hdkey.Key, wantErr api.Errno) {
	t.Helper()
	if got != want || err != wantErr {
		t.Errorf("%s = %x, error %d, want %x, error %d", what, got, err, want, wantErr)
	}
}

// noData returns Data that are not a key.
func noData() [][33]byte {
	point := [33]byte(unhex("0279be667ef9dcbbac55a06295ce870b07029bfcdb2dce28d959f2815b16f81798"))
	one, four, all := point, point, point
	one[0], four[0], all[0] = 1, 4, 255
	prime := unhex("fffffffffffffffffffffffffffffffffffffffffffffffffffffffefffffc2f")
	return [][33]byte{
		{},
		privateOf(orderText),
		privateOf("ffffffffffffffffffffffffffffffffffffffffffffffffffffffffffffffff"),
		one, four, all,
		{2}, {3}, {1}, {2, 32: 5}, {3, 32: 5},
		[33]byte(append([]byte{2}, prime...)),
		[33]byte(append([]byte{3}, prime...)),
		[33]byte(bytes.Repeat([]byte{255}, 33)),
	}
}

// plainMac is Hmac512.
func plainMac(key, b []byte) []byte {
	h := hmac.New(sha512.New, key)
	h.Write(b)
	return h.Sum(nil)
}

// plainStep is Step of a private key as the document says it.
func plainStep(k hdkey.Key, n uint32) hdkey.Key {
	point, _ := curve.Public([32]byte(k.Data[1:]))
	message := point[:]
	if n >= 1<<31 {
		message = k.Data[:]
	}
	mac := plainMac(k.Chain[:], append(bytes.Clone(message), byte(n>>24), byte(n>>16), byte(n>>8), byte(n)))
	order := new(big.Int).SetBytes(unhex(orderText))
	sum := new(big.Int).SetBytes(mac[:32])
	sum.Mod(sum.Add(sum, new(big.Int).SetBytes(k.Data[1:])), order)
	child := hdkey.Key{Depth: k.Depth + 1, Child: n, Chain: [32]byte(mac[32:])}
	finger := hash.Hash160(point[:])
	child.Finger = [4]byte(finger[:4])
	sum.FillBytes(child.Data[1:])
	return child
}

// numbers returns numbers of children at the edges, and any others.
func numbers() []uint32 {
	return []uint32{0, 1, 2, 255, 256, 65535, 65536, 1 << 24, 1234567890, hdkey.Hard - 2, hdkey.Hard - 1,
		hdkey.Hard, hdkey.Hard + 1, hdkey.Hard + 256, 3000000000, 1<<32 - 2, 1<<32 - 1}
}

func TestP6_1Master(t *testing.T) {
	for n := 16; n <= 64; n++ {
		for _, seed := range [][]byte{counted(n), make([]byte, n), bytes.Repeat([]byte{255}, n)} {
			mac := plainMac([]byte("Bitcoin seed"), seed)
			want := hdkey.Key{Chain: [32]byte(mac[32:])}
			copy(want.Data[1:], mac)
			got, err := hdkey.Master(seed)
			expect(t, "Master", got, err, want, api.OK)
		}
	}
}

func TestP6_1MasterSizes(t *testing.T) {
	for n := range 200 {
		k, err := hdkey.Master(counted(n))
		if n < 16 || n > 64 {
			expect(t, "Master", k, err, hdkey.Key{}, api.ErrSize)
		} else if err != api.OK || k == (hdkey.Key{}) {
			t.Errorf("Master of %d bytes = %x, error %d", n, k, err)
		}
	}
	k, err := hdkey.Master(nil)
	expect(t, "Master of nil", k, err, hdkey.Key{}, api.ErrSize)
	k, err = hdkey.Master(make([]byte, 1000000))
	expect(t, "Master of 1000000 bytes", k, err, hdkey.Key{}, api.ErrSize)
}

func TestP6_1Private(t *testing.T) {
	for first := range 256 {
		k := hdkey.Key{Data: [33]byte{byte(first), 7}}
		if k.Private() != (first == 0) {
			t.Errorf("the first byte %d: %t", first, k.Private())
		}
	}
	if !(hdkey.Key{Depth: 9}).Private() {
		t.Errorf("Private says false of Data of zeros")
	}
}

func TestP6_1PublicPointSecret(t *testing.T) {
	k := mustMaster(t)
	k.Depth, k.Finger, k.Child = 7, [4]byte{1, 2, 3, 4}, 5
	point, _ := curve.Public([32]byte(k.Data[1:]))
	want := k
	want.Data = point
	p, err := k.Public()
	expect(t, "Public", p, err, want, api.OK)
	again, err := p.Public()
	expect(t, "Public of a public key", again, err, want, api.OK)
	for _, one := range []hdkey.Key{k, p} {
		if got, err := one.Point(); got != point || err != api.OK {
			t.Errorf("Point = %x, error %d", got, err)
		}
	}
	if secret, err := k.Secret(); secret != [32]byte(k.Data[1:]) || err != api.OK {
		t.Errorf("Secret = %x, error %d", secret, err)
	}
	if secret, err := p.Secret(); secret != [32]byte{} || err != api.ErrArg {
		t.Errorf("Secret of a public key = %x, error %d", secret, err)
	}
}

func TestP6_1KeysAtTheEnds(t *testing.T) {
	last := "fffffffffffffffffffffffffffffffebaaedce6af48a03bbfd25e8cd0364140"
	first := "0000000000000000000000000000000000000000000000000000000000000001"
	for number, want := range map[string]string{
		first: "0279be667ef9dcbbac55a06295ce870b07029bfcdb2dce28d959f2815b16f81798",
		last:  "0379be667ef9dcbbac55a06295ce870b07029bfcdb2dce28d959f2815b16f81798",
	} {
		k := hdkey.Key{Data: privateOf(number)}
		if point, err := k.Point(); !bytes.Equal(point[:], unhex(want)) || err != api.OK {
			t.Errorf("Point of %s = %x, error %d", number, point, err)
		}
		if _, err := k.Secret(); err != api.OK {
			t.Errorf("Secret of %s: error %d", number, err)
		}
		for _, n := range numbers() {
			c, err := k.Step(n)
			expect(t, "Step", c, err, plainStep(k, n), api.OK)
		}
		parsed(t, k.Text(), k, api.OK)
	}
}

func TestP6_1Step(t *testing.T) {
	k := mustMaster(t)
	for range 4 {
		for _, n := range numbers() {
			c, err := k.Step(n)
			expect(t, "Step", c, err, plainStep(k, n), api.OK)
		}
		k, _ = k.Step(3)
	}
}

func TestP6_1NotAKey(t *testing.T) {
	for _, data := range noData() {
		for _, depth := range []byte{0, 1, 254, 255} {
			k := hdkey.Key{Depth: depth, Child: 3, Chain: [32]byte{9}, Data: data}
			got, err := k.Public()
			expect(t, "Public", got, err, hdkey.Key{}, api.ErrForm)
			for _, n := range numbers() {
				got, err = k.Step(n)
				expect(t, "Step", got, err, hdkey.Key{}, api.ErrForm)
				got, err = k.Walk(n, n)
				expect(t, "Walk", got, err, hdkey.Key{}, api.ErrForm)
			}
			got, err = k.Walk()
			expect(t, "Walk of no steps", got, err, hdkey.Key{}, api.ErrForm)
			if point, err := k.Point(); point != [33]byte{} || err != api.ErrForm {
				t.Errorf("Point of %x = %x, error %d", data, point, err)
			}
			if secret, err := k.Secret(); secret != [32]byte{} || err != api.ErrForm {
				t.Errorf("Secret of %x = %x, error %d", data, secret, err)
			}
			if k.Private() != (data[0] == 0) {
				t.Errorf("Private of %x = %t", data, k.Private())
			}
		}
	}
}

func TestP6_1StepDepth(t *testing.T) {
	k := mustMaster(t)
	k.Depth = 254
	c, err := k.Step(5)
	expect(t, "Step from 254", c, err, plainStep(k, 5), api.OK)
	if c.Depth != 255 {
		t.Errorf("the depth below 254 is %d", c.Depth)
	}
	p := mustPublic(t, c)
	for _, n := range numbers() {
		got, err := c.Step(n)
		expect(t, "Step from 255", got, err, hdkey.Key{}, api.ErrSize)
		// A public key has no hard children either, but the depth is told first.
		got, err = p.Step(n)
		expect(t, "Step from 255 of a public key", got, err, hdkey.Key{}, api.ErrSize)
	}
}

func TestP6_1StepOfAPublicKey(t *testing.T) {
	p := mustPublic(t, mustMaster(t))
	for _, n := range numbers() {
		c, err := p.Step(n)
		if n >= hdkey.Hard {
			expect(t, "a hard step", c, err, hdkey.Key{}, api.ErrArg)
		} else if err != api.OK || c.Private() || c.Depth != 1 || c.Child != n {
			t.Errorf("Step(%d) = %x, error %d", n, c, err)
		}
	}
}

func TestP6_1Walk(t *testing.T) {
	k := mustMaster(t)
	for _, path := range [][]uint32{nil, {}, {0}, {hdkey.Hard}, {1, 2, 3}, numbers()} {
		want := k
		for _, n := range path {
			want = plainStep(want, n)
		}
		got, err := k.Walk(path...)
		expect(t, "Walk", got, err, want, api.OK)
	}
}

func TestP6_1WalkErrors(t *testing.T) {
	k := mustMaster(t)
	p := mustPublic(t, k)
	got, err := p.Walk()
	expect(t, "no steps", got, err, p, api.OK)
	got, err = p.Walk(1, hdkey.Hard, 2)
	expect(t, "a hard step", got, err, hdkey.Key{}, api.ErrArg)
	k.Depth = 253
	got, err = k.Walk(1, hdkey.Hard)
	expect(t, "to 255", got, err, plainStep(plainStep(k, 1), hdkey.Hard), api.OK)
	got, err = k.Walk(1, 2, 3)
	expect(t, "beyond 255", got, err, hdkey.Key{}, api.ErrSize)
	// The first error is that of the first step that has one.
	p.Depth = 253
	got, err = p.Walk(1, 2, hdkey.Hard)
	expect(t, "beyond 255, and hard", got, err, hdkey.Key{}, api.ErrSize)
	got, err = p.Walk(1, hdkey.Hard, 2, 3)
	expect(t, "hard, and beyond 255", got, err, hdkey.Key{}, api.ErrArg)
	k.Depth = 0
	got, err = k.Walk(make([]uint32, 256)...)
	expect(t, "256 steps", got, err, hdkey.Key{}, api.ErrSize)
	got, err = k.Walk(make([]uint32, 255)...)
	if err != api.OK || got.Depth != 255 {
		t.Errorf("255 steps lead to depth %d, error %d", got.Depth, err)
	}
}

func TestP6_2PublicChildren(t *testing.T) {
	k := mustMaster(t)
	for range 5 {
		p := mustPublic(t, k)
		for _, n := range numbers() {
			if n >= hdkey.Hard {
				continue
			}
			c, err := k.Step(n)
			if err != api.OK {
				t.Fatalf("Step(%d): error %d", n, err)
			}
			got, err := p.Step(n)
			expect(t, "the public child", got, err, mustPublic(t, c), api.OK)
		}
		k, _ = k.Walk(hdkey.Hard+7, 8)
	}
}

func TestP6_2PublicWalk(t *testing.T) {
	k := mustMaster(t)
	path := []uint32{0, 1, hdkey.Hard - 1, 44, 1 << 20}
	far, err := k.Walk(path...)
	if err != api.OK {
		t.Fatalf("Walk: error %d", err)
	}
	got, err := mustPublic(t, k).Walk(path...)
	expect(t, "Walk of the public key", got, err, mustPublic(t, far), api.OK)
}

func TestMemory(t *testing.T) {
	room := counted(80)
	for _, n := range []int{15, 16, 40, 64, 65} {
		hdkey.Master(room[:n])
	}
	if !bytes.Equal(room, counted(80)) {
		t.Errorf("Master changed its seed, or what is behind it")
	}
	k := mustMaster(t)
	path := numbers()
	k.Walk(path[:2]...)
	hdkey.Path(path[:5]...)
	for i, n := range numbers() {
		if path[i] != n {
			t.Errorf("step %d was changed", i)
		}
	}
	first, _ := hdkey.ParsePath("m/1/2/3")
	first[0] = 9
	if again, _ := hdkey.ParsePath("m/1/2/3"); again[0] != 1 {
		t.Errorf("two answers share memory")
	}
	before := k
	k.Public()
	k.Step(1)
	if k != before {
		t.Errorf("a key was changed")
	}
}
