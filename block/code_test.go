package block_test

import (
	"bytes"
	"encoding/binary"
	"encoding/hex"
	"slices"
	"strings"
	"testing"

	"strongbox/api"
	"strongbox/block"
	"strongbox/hash"
	"strongbox/tx"
	"strongbox/wire"
)

func hexed(t *testing.T, s string) []byte {
	t.Helper()
	b, err := hex.DecodeString(strings.ReplaceAll(s, " ", ""))
	if err != nil {
		t.Fatal(err)
	}
	return b
}

// expectDecode: b is decoded to want if err is OK, and to nothing otherwise.
func expectDecode(t *testing.T, what string, b []byte, want api.Block, err api.Errno) {
	t.Helper()
	got, e := block.Decode(b)
	if e != err {
		t.Errorf("%s: error %d; want %d", what, e, err)
	}
	if err != api.OK && !sameBlocks(got, api.Block{}) {
		t.Errorf("%s: a block beside an error", what)
	}
	if err == api.OK && !sameBlocks(got, want) {
		t.Errorf("%s: another block", what)
	}
}

func expectError(t *testing.T, what string, b []byte, err api.Errno) {
	t.Helper()
	expectDecode(t, what, b, api.Block{}, err)
}

// withTxs returns the bytes of a header, a number of transactions, and what follows.
func withTxs(n int, rest ...[]byte) []byte {
	var w wire.Writer
	w.Raw(block.EncodeHeader(blockOf().Header)...)
	w.Size(uint64(n))
	w.Raw(bytes.Join(rest, nil)...)
	return w.Out()
}

// sizedBytes returns a list of bytes behind its size.
func sizedBytes(b []byte) []byte {
	var w wire.Writer
	w.Bytes(b)
	return w.Out()
}

func TestP10_1Header(t *testing.T) {
	h := api.Header{Version: -0x7efdfcfc, Time: 0x81828384, Bits: 0x01020304, Nonce: 0x91929394}
	for i := range 32 {
		h.Prev[i], h.Merkle[i] = byte(i+1), byte(i+33)
	}
	want := hexed(t, "04030281"+
		"0102030405060708090a0b0c0d0e0f101112131415161718191a1b1c1d1e1f20"+
		"2122232425262728292a2b2c2d2e2f303132333435363738393a3b3c3d3e3f40"+
		"84838281 04030201 94939291")
	for _, x := range []api.Header{h, {}, {Version: 1<<31 - 1, Nonce: 1<<32 - 1}, {Version: -1 << 31, Time: 1}} {
		b := block.EncodeHeader(x)
		if x == h && !bytes.Equal(b, want) {
			t.Errorf("%x", b)
		}
		if got, err := block.DecodeHeader(b); len(b) != 80 || got != x || err != api.OK {
			t.Errorf("%+v comes back as %+v, error %d", x, got, err)
		}
		if block.Id(x) != hash.Double(b) {
			t.Errorf("Id of %+v", x)
		}
	}
}

func TestP10_1HeaderErrors(t *testing.T) {
	b := append(block.EncodeHeader(blockOf().Header), 1, 2, 3)
	for n := range len(b) + 1 {
		want := api.OK
		if n < 80 {
			want = api.ErrEnd
		} else if n > 80 {
			want = api.ErrForm
		}
		got, err := block.DecodeHeader(b[:n])
		if err != want || err != api.OK && got != (api.Header{}) {
			t.Errorf("%d bytes: %+v, error %d; want %d", n, got, err, want)
		}
	}
	if _, err := block.DecodeHeader(nil); err != api.ErrEnd {
		t.Errorf("no bytes: error %d", err)
	}
}

// The first block of Bitcoin.
const (
	firstBlock = "0100000000000000000000000000000000000000000000000000000000000000000000003ba3edfd7a7b12b27ac72c3e67768f617fc81bc3888a51323a9fb8aa4b1e5e4a29ab5f49ffff001d1dac2b7c"
	firstTx    = "01000000010000000000000000000000000000000000000000000000000000000000000000ffffffff4d04ffff001d0104455468652054696d65732030332f4a616e2f32303039204368616e63656c6c6f72206f6e206272696e6b206f66207365636f6e64206261696c6f757420666f722062616e6b73ffffffff0100f2052a01000000434104678afdb0fe5548271967f1a67130b7105cd6a828e03909a67962e0ea1f61deb649f6bc3f4cef38c4f35504e51ec112de5c384df7ba0b8d578a4c702b6bf11d5fac00000000"
)

func TestP10_1FirstBlock(t *testing.T) {
	b, err := block.Decode(hexed(t, firstBlock+"01"+"cc"+firstTx))
	if err != api.OK || block.Check(b) != api.OK {
		t.Fatalf("error %d, Check %d", err, block.Check(b))
	}
	if s := hash.Text(block.Id(b.Header)); s != "000000000019d6689c085ae165831e934ff763ae46a2a6c172b3f1b60a8ce26f" {
		t.Errorf("Id %s", s)
	}
	if s := hash.Text(block.Root(b)); s != "4a5e1e4baab89f3a32518a88c31bc87f618f76673e2cc77ab2127b7afdeda33b" || block.Root(b) != b.Merkle {
		t.Errorf("Root %s", s)
	}
}

// witnessed returns a payment with a witness.
func witnessed(n int) api.Tx {
	t := payment(n)
	t.In[0].Witness = [][]byte{fill(n, 3), nil}
	return t
}

func TestP10_1Inverse(t *testing.T) {
	header := block.EncodeHeader(blockOf().Header)
	for _, list := range [][]api.Tx{nil, {}, {coinbase(1)}, {witnessed(3)}, {coinbase(2), payment(1), witnessed(300), payment(1)}} {
		x := blockOf(list...)
		want := append(slices.Clone(header), byte(len(list)))
		for _, tr := range list {
			want = append(want, sizedBytes(tx.Encode(tr, true))...)
		}
		b := block.Encode(x)
		if !bytes.Equal(b, want) {
			t.Errorf("%d transactions: %x; want %x", len(list), b, want)
		}
		expectDecode(t, "what was encoded", b, x, api.OK)
		for n := range b {
			expectError(t, "a beginning", b[:n], api.ErrEnd)
		}
		expectError(t, "one byte more", append(slices.Clone(b), 0), api.ErrForm)
	}
}

// TestP10_1Counts: at most 10000 transactions.
func TestP10_1Counts(t *testing.T) {
	var list []api.Tx
	for n := range 10001 {
		list = append(list, payment(n))
	}
	expectDecode(t, "10000 transactions", block.Encode(blockOf(list[:10000]...)), blockOf(list[:10000]...), api.OK)
	expectError(t, "10001 transactions", block.Encode(blockOf(list...)), api.ErrSize)
	expectError(t, "10000 transactions, which are not there", withTxs(10000), api.ErrEnd)
	expectError(t, "10001 transactions, which are not there", withTxs(10001), api.ErrSize)
	expectError(t, "more than MaxSize", withTxs(api.MaxSize+1), api.ErrSize)
	header := block.EncodeHeader(blockOf().Header)
	expectError(t, "a number that is longer than necessary", append(slices.Clone(header), 253, 1, 0), api.ErrForm)
	expectError(t, "a number that ends too early", append(slices.Clone(header), 253, 1), api.ErrEnd)
}

// TestP10_1Sizes: what a transaction's size can be.
func TestP10_1Sizes(t *testing.T) {
	one := tx.Encode(payment(1), true)
	great, greater := tx.Encode(sized(100000), true), tx.Encode(sized(100001), true)
	front := binary.LittleEndian.AppendUint32([]byte{254}, 100000)
	beyond := binary.LittleEndian.AppendUint32([]byte{254}, 100001)
	longer := append([]byte{253, byte(len(one)), 0}, one...)
	expectDecode(t, "100000 bytes", withTxs(1, sizedBytes(great)), blockOf(sized(100000)), api.OK)
	for _, c := range []struct {
		what string
		b    []byte
		err  api.Errno
	}{
		{"100001 bytes", withTxs(1, sizedBytes(greater)), api.ErrSize},
		{"100000 bytes, which are not there", withTxs(1, front, one), api.ErrEnd},
		{"100001 bytes, which are not there", withTxs(1, beyond, one), api.ErrSize},
		{"a size that is greater than what is left", withTxs(1, []byte{byte(len(one) + 1)}, one), api.ErrEnd},
		{"a size that takes a byte of the next one", withTxs(2, []byte{byte(len(one) + 1)}, one, sizedBytes(one)), api.ErrForm},
		{"a byte left over in a transaction", withTxs(1, sizedBytes(append(slices.Clone(one), 0))), api.ErrForm},
		{"a byte left over in the first of two", withTxs(2, sizedBytes(append(slices.Clone(one), 0)), sizedBytes(one)), api.ErrForm},
		{"a size that is too little", withTxs(1, []byte{byte(len(one) - 1)}, one), api.ErrEnd},
		{"no bytes", withTxs(1, []byte{0}), api.ErrEnd},
		{"a size that is longer than necessary", withTxs(1, longer), api.ErrForm},
		{"a size of more than MaxSize", withTxs(1, []byte{254, 1, 0, 0, 2}), api.ErrSize},
		{"one transaction less than there should be", withTxs(2, sizedBytes(one)), api.ErrEnd},
		{"one transaction more than there should be", withTxs(1, sizedBytes(one), sizedBytes(one)), api.ErrForm},
	} {
		expectError(t, c.what, c.b, c.err)
	}
}

// TestP10_1ErrorsAsTheyOccur: the first part that is wrong is told, whatever follows.
func TestP10_1ErrorsAsTheyOccur(t *testing.T) {
	one := tx.Encode(payment(1), true)
	outputs := slices.Concat(one[:4], []byte{253, 0xa9, 0x61}, one[5:]) // 25001 inputs
	for _, c := range []struct {
		what  string
		parts [][]byte
		err   api.Errno
	}{
		{"too many inputs, then the end", [][]byte{sizedBytes(outputs)}, api.ErrSize},
		{"the end in a transaction, then too many inputs", [][]byte{sizedBytes(one[:20]), sizedBytes(outputs)}, api.ErrEnd},
		{"bytes left over in a transaction, then one of too many bytes", [][]byte{sizedBytes(append(slices.Clone(one), 7)), {254, 0xff, 0xff, 0xff, 1}}, api.ErrForm},
		{"one of too many bytes, then bytes left over in one", [][]byte{{254, 0xff, 0xff, 0xff, 1}, sizedBytes(append(slices.Clone(one), 7))}, api.ErrSize},
		{"no transaction, then the end", [][]byte{sizedBytes(one), sizedBytes([]byte{1, 0, 0, 0, 0, 2})}, api.ErrForm},
	} {
		expectError(t, c.what, withTxs(9, c.parts...), c.err)
	}
}

// TestP10_1GreatestBlock: at most 1000000 bytes.
func TestP10_1GreatestBlock(t *testing.T) {
	var list []api.Tx
	for i := range 10 {
		list = append(list, sized(99000+i))
	}
	rest := api.MaxBlock - len(block.Encode(blockOf(list...)))
	list = append(list, sized(rest-3))
	x := blockOf(list...)
	b := block.Encode(x)
	if len(b) != 1000000 {
		t.Fatalf("%d bytes", len(b))
	}
	expectDecode(t, "1000000 bytes", b, x, api.OK)
	expectError(t, "1000000 bytes, the last one left over", slices.Concat(b[:80], []byte{10}, b[81:]), api.ErrForm)
	list[10] = sized(rest - 2)
	if b = block.Encode(blockOf(list...)); len(b) != 1000001 {
		t.Fatalf("%d bytes", len(b))
	}
	expectError(t, "1000001 bytes", b, api.ErrSize)
	// Any other error is found later.
	for _, first := range []byte{0, 1, 255} {
		expectError(t, "1000001 bytes of another form", bytes.Repeat([]byte{first}, 1000001), api.ErrSize)
	}
	expectError(t, "1000000 bytes of another form", make([]byte, 1000000), api.ErrForm)
}

// TestP10_1AnyBytes changes, leaves out and adds each byte: what is accepted is an encoding.
func TestP10_1AnyBytes(t *testing.T) {
	b := block.Encode(blockOf(coinbase(1), witnessed(5), payment(2)))
	for i := range b {
		for _, v := range []byte{0, 1, 252, 253, 255, b[i] + 1, b[i] ^ 128} {
			c := slices.Clone(b)
			c[i] = v
			for _, d := range [][]byte{c, slices.Insert(slices.Clone(b), i, v), slices.Delete(c, i, i+1)} {
				x, err := block.Decode(d)
				if err == api.OK && !bytes.Equal(block.Encode(x), d) {
					t.Fatalf("%x is decoded, but encoded as %x", d, block.Encode(x))
				}
				if err != api.OK && !sameBlocks(x, api.Block{}) {
					t.Fatalf("%x: a block beside error %d", d, err)
				}
			}
		}
	}
}
