package hash_test

import (
	"bytes"
	"crypto/hmac"
	"crypto/sha256"
	"crypto/sha512"
	"encoding/hex"
	"strings"
	"testing"

	"strongbox/hash"
)

// message returns n bytes that differ from their neighbours.
func message(n int) []byte {
	b := make([]byte, n)
	for i := range b {
		b[i] = byte(7*i + 3)
	}
	return b
}

// lengths returns all of the first few blocks, and some greater ones.
func lengths() []int {
	var all []int
	for n := range 400 {
		all = append(all, n)
	}
	return append(all, 1000, 4095, 4096, 4097, 1<<16-9, 1<<16, 1<<20+1)
}

func TestP2_1Examples(t *testing.T) {
	sum256 := hash.Sum256([]byte("abc"))
	sum512 := hash.Sum512([]byte("abc"))
	ripemd := hash.Ripemd([]byte("abc"))
	cases := [][2]string{
		{hex.EncodeToString(sum256[:]), "ba7816bf8f01cfea414140de5dae2223b00361a396177a9cb410ff61f20015ad"},
		{hex.EncodeToString(sum512[:8]), "ddaf35a193617aba"},
		{hex.EncodeToString(ripemd[:]), "8eb208f7e05d987a9b044a8e98c6b087f15a0bfc"},
	}
	for _, c := range cases {
		if c[0] != c[1] {
			t.Errorf("%s, want %s", c[0], c[1])
		}
	}
}

func TestP2_1Sums(t *testing.T) {
	for _, n := range lengths() {
		b := message(n)
		if hash.Sum256(b) != sha256.Sum256(b) {
			t.Errorf("Sum256 of %d bytes", n)
		}
		if hash.Sum512(b) != sha512.Sum512(b) {
			t.Errorf("Sum512 of %d bytes", n)
		}
	}
	if hash.Sum256(nil) != sha256.Sum256(nil) || hash.Sum512(nil) != sha512.Sum512(nil) {
		t.Errorf("of nothing")
	}
}

func TestP2_1Ripemd(t *testing.T) {
	cases := []struct{ s, want string }{
		// Its authors' own.
		{"", "9c1185a5c5e9fc54612808977ee8f548b2258d31"},
		{"a", "0bdc9d2d256b3ee9daae347be6f4dc835a467ffe"},
		{"abc", "8eb208f7e05d987a9b044a8e98c6b087f15a0bfc"},
		{"message digest", "5d0689ef49d2fae572b881b123a85ffa21595f36"},
		{"abcdefghijklmnopqrstuvwxyz", "f71c27109c692c1b56bbdceb5b9d2865b3708dbc"},
		{"abcdbcdecdefdefgefghfghighijhijkijkljklmklmnlmnomnopnopq", "12a053384a9c0c88e405a06c27dcf49ada62eb2b"},
		{"ABCDEFGHIJKLMNOPQRSTUVWXYZabcdefghijklmnopqrstuvwxyz0123456789", "b0e20b6e3116640286ed3a87a5713079b21f5189"},
		{strings.Repeat("1234567890", 8), "9b752e45573d4b39f4dbd3323cab82bf63326bfb"},
		{strings.Repeat("a", 1000000), "52783243c1697bdbe16d37f97f68f08325dc1528"},
		// Around a block's end.
		{string(message(55)), "ced4a416d2eddc4c54a59c57fa299bc86af70de9"},
		{string(message(56)), "581330764dcfaa5bbe4de58601aa56a838cc58d7"},
		{string(message(57)), "9694d882853e0ed51a4f81fe71c5c4ffe5bc8480"},
		{string(message(63)), "f946627df85129e38a6142b694aed087f2f85d71"},
		{string(message(64)), "6049fc18acb2ba0205d12fbf2ebc57628031d28c"},
		{string(message(65)), "a03bc7711af42632ce8e675adbdc1d690a850f07"},
		{string(message(119)), "22d9d4f2a6368b58145202e9ffa1479f0a13fd11"},
		{string(message(120)), "c7ca324844fcb190fb8a9e7d843251391e2556de"},
		{string(message(127)), "0c8d2fd036279a926ff6a4e51a2c0aa6e2f7306f"},
		{string(message(128)), "0612b629dd5aedbd608df63782bac221b62336df"},
	}
	for _, c := range cases {
		got := hash.Ripemd([]byte(c.s))
		if hex.EncodeToString(got[:]) != c.want {
			t.Errorf("Ripemd of %d bytes = %x, want %s", len(c.s), got, c.want)
		}
	}
}

// TestP2_1RipemdOfEveryLength holds the digest of all digests against the one that OpenSSL makes.
func TestP2_1RipemdOfEveryLength(t *testing.T) {
	var all []byte
	for n := range 301 {
		one := hash.Ripemd(message(n))
		all = append(all, one[:]...)
	}
	got := hash.Ripemd(all)
	if hex.EncodeToString(got[:]) != "b55940ed55e79e976b4c20f20fcdc4810a201d3a" {
		t.Errorf("%x", got)
	}
}

func TestP2_2DoubleAndHash160(t *testing.T) {
	for _, n := range lengths() {
		b := message(n)
		once := sha256.Sum256(b)
		if hash.Double(b) != sha256.Sum256(once[:]) {
			t.Errorf("Double of %d bytes", n)
		}
		if hash.Hash160(b) != hash.Ripemd(once[:]) {
			t.Errorf("Hash160 of %d bytes", n)
		}
	}
	double := hash.Double([]byte("hello"))
	if s := hex.EncodeToString(double[:]); s != "9595c9df90075148eb06860365df33584b75bff782a510c6cd4883a419833d50" {
		t.Errorf("Double of a text: %s", s)
	}
	point, _ := hex.DecodeString("0279be667ef9dcbbac55a06295ce870b07029bfcdb2dce28d959f2815b16f81798")
	for s, want := range map[string]string{string(point): "751e76e8199196d454941c45d1b3a323f1433bd6", "": "b472a266d0bd89c13706a4132ccfb16f7c3b9fcb"} {
		got := hash.Hash160([]byte(s))
		if hex.EncodeToString(got[:]) != want {
			t.Errorf("Hash160 of %x = %x", s, got)
		}
	}
}

func TestP2_2Hmac512(t *testing.T) {
	plain := func(key, b []byte) []byte {
		h := hmac.New(sha512.New, key)
		h.Write(b)
		return h.Sum(nil)
	}
	for _, key := range append(lengths()[:300], 4096) {
		for _, n := range []int{0, 1, 37, 111, 112, 127, 128, 129, 1000} {
			k, b := message(key), message(n)
			if got := hash.Hmac512(k, b); !bytes.Equal(got[:], plain(k, b)) {
				t.Errorf("a key of %d bytes, %d bytes", key, n)
			}
		}
	}
	// RFC 4231, case 6: a key longer than a block.
	got := hash.Hmac512(bytes.Repeat([]byte{0xaa}, 131), []byte("Test Using Larger Than Block-Size Key - Hash Key First"))
	if s := hex.EncodeToString(got[:16]); s != "80b24263c7c1a3ebb71493c1dd7be8b4" {
		t.Errorf("a key of 131 bytes: %s", s)
	}
	if hash.Hmac512(nil, nil) != hash.Hmac512(make([]byte, 128), nil) {
		t.Errorf("a key is extended with zero bytes")
	}
	if hash.Hmac512(make([]byte, 128), nil) == hash.Hmac512(make([]byte, 129), nil) {
		t.Errorf("a key of 129 bytes is replaced by its digest")
	}
}

func TestArgumentsRemain(t *testing.T) {
	room := message(300)
	for _, n := range []int{0, 1, 63, 64, 100, 128, 200} {
		part := room[:n]
		hash.Sum256(part)
		hash.Sum512(part)
		hash.Ripemd(part)
		hash.Double(part)
		hash.Hash160(part)
		hash.Hmac512(part, room[:n])
		var s hash.Sum
		s.Add(part...)
		s.Hash()
		s.Twice()
	}
	if !bytes.Equal(room, message(300)) {
		t.Errorf("an argument was changed")
	}
}
