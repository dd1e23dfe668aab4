package block_test

import (
	"slices"
	"testing"

	"strongbox/api"
	"strongbox/block"
	"strongbox/hash"
	"strongbox/tx"
)

func join(a, b api.Hash) api.Hash { return hash.Double(slices.Concat(a[:], b[:])) }

func TestP10_2Merkle(t *testing.T) {
	var h []api.Hash
	for i := range 7 {
		h = append(h, digest(byte(i)))
	}
	ab, cd, ef := join(h[0], h[1]), join(h[2], h[3]), join(h[4], h[5])
	cc, ee, gg := join(h[2], h[2]), join(h[4], h[4]), join(h[6], h[6])
	want := []api.Hash{
		{},
		h[0],
		ab,
		join(ab, cc),
		join(ab, cd),
		join(join(ab, cd), join(ee, ee)),
		join(join(ab, cd), join(ef, ef)),
		join(join(ab, cd), join(ef, gg)),
	}
	for n, w := range want {
		if got := block.Merkle(h[:n]...); got != w {
			t.Errorf("Merkle of %d ids: %x; want %x", n, got, w)
		}
	}
	if block.Merkle(h[1], h[0]) == ab {
		t.Error("Merkle doesn't depend on the order")
	}
}

// modelMerkle fills the ids of each step up to an even number ahead of pairing them.
func modelMerkle(ids []api.Hash) api.Hash {
	if len(ids) < 2 {
		return slices.Concat(ids, []api.Hash{{}})[0]
	}
	var next []api.Hash
	for pair := range slices.Chunk(ids, 2) {
		next = append(next, join(pair[0], pair[len(pair)-1]))
	}
	return modelMerkle(next)
}

func TestP10_2MerkleOfMany(t *testing.T) {
	var h []api.Hash
	for i := range 130 {
		if got := block.Merkle(h...); got != modelMerkle(h) {
			t.Errorf("Merkle of %d ids: %x", i, got)
		}
		h = append(h, hash.Sum256([]byte{byte(i)}))
	}
}

// TestP10_2KnownMerkle: the root of a block of Bitcoin.
func TestP10_2KnownMerkle(t *testing.T) {
	var ids []api.Hash
	for _, s := range []string{
		"8c14f0db3df150123e6f3dbbf30f8b955a8249b62ac1d1ff16284aefa3d06d87",
		"fff2525b8931402dd09222c50775608f75787bd2b87e56995a7bdd30f79702c4",
		"6359f0868171b1d194cbee1af2f16ea598ae8fad666d9b012c8ed2b79a236ec4",
		"e9a66845e05d5abc0ad04ec80f774a7e585c6e8db975962d069a522137b80c1d",
	} {
		id, _ := hash.FromText(s)
		ids = append(ids, id)
	}
	if s := hash.Text(block.Merkle(ids...)); s != "f3e94742aca4b5ef85488dc37c06c3282295ffec960994b2c0d5ac2a25a95766" {
		t.Errorf("Merkle = %s", s)
	}
}

// TestP10_2Root: it covers the witnesses.
func TestP10_2Root(t *testing.T) {
	var list []api.Tx
	var ids []api.Hash
	for n := range 6 {
		if got := block.Root(blockOf(list...)); got != block.Merkle(ids...) {
			t.Errorf("Root of %d transactions: %x", n, got)
		}
		list = append(list, witnessed(n))
		ids = append(ids, tx.WitnessId(list[n]))
	}
	bare := []api.Tx{payment(1)}
	if block.Root(blockOf(witnessed(1))) == block.Root(blockOf(bare...)) {
		t.Error("Root doesn't depend on the witnesses")
	}
	if block.Root(blockOf(bare...)) != tx.Id(bare[0]) {
		t.Error("Root of a transaction without witnesses is another digest than its Id")
	}
}

func TestP10_5Memory(t *testing.T) {
	ids := []api.Hash{digest(1), digest(2), digest(3), digest(4)}
	before := slices.Clone(ids)
	block.Merkle(ids[:3]...)
	if !slices.Equal(ids, before) {
		t.Error("Merkle changed its argument")
	}
	x := blockOf(coinbase(1), witnessed(4), payment(3))
	want := block.Encode(x)
	first := block.Encode(x)
	header := block.EncodeHeader(x.Header)
	block.Check(x)
	block.Root(x)
	scribble(first, header)
	if again := block.Encode(x); !slices.Equal(again, want) {
		t.Error("an argument was changed, or a result shares memory")
	}
	given := append(slices.Clone(want), "spare"...)
	y, _ := block.Decode(given[:len(want)])
	z, _ := block.Decode(given[:len(want)])
	h, _ := block.DecodeHeader(given[:80])
	if !slices.Equal(given, append(slices.Clone(want), "spare"...)) {
		t.Error("Decode changed its argument")
	}
	scribble(given)
	for i := range z.Txs {
		scribble(z.Txs[i].Out[0].Script, z.Txs[i].In[0].Script)
		for _, item := range z.Txs[i].In[0].Witness {
			scribble(item)
		}
		z.Txs[i].In[0].Seq, z.Txs[i].Out[0].Value = 77, 77
		z.Txs[i].In, z.Txs[i].Out = nil, nil
	}
	clear(z.Txs[:cap(z.Txs)])
	if !sameBlocks(y, x) || h != x.Header {
		t.Error("an argument was kept, or two results share memory")
	}
}

// TestP10_5OwnLists: what is written to one list of a block does not show in another one.
func TestP10_5OwnLists(t *testing.T) {
	x, err := block.Decode(block.Encode(blockOf(coinbase(1), witnessed(9), sized(200), sized(400))))
	if err != api.OK {
		t.Fatalf("error %d", err)
	}
	var parts [][]byte
	for _, tr := range x.Txs {
		parts = append(parts, tr.In[0].Script, tr.Out[0].Script)
		parts = append(parts, tr.In[0].Witness...)
	}
	for i, p := range parts {
		for j := range p[:cap(p)] {
			p[:cap(p)][j] = byte(i)
		}
	}
	for i, p := range parts {
		for _, b := range p {
			if b != byte(i) {
				t.Fatal("two lists share memory")
			}
		}
	}
}

// scribble overwrites all memory of lists, spare capacity too.
func scribble(lists ...[]byte) {
	for _, b := range lists {
		b = b[:cap(b)]
		for i := range b {
			b[i] ^= 0x55
		}
	}
}
