package sighash_test

import (
	"bytes"
	"encoding/hex"
	"math"
	"slices"
	"testing"

	"strongbox/api"
	"strongbox/curve"
	"strongbox/hash"
	"strongbox/sighash"
	"strongbox/tx"
)

// unhexed returns the bytes of a text of digits.
func unhexed(t *testing.T, s string) []byte {
	t.Helper()
	b, err := hex.DecodeString(s)
	if err != nil {
		t.Fatal(err)
	}
	return b
}

func decoded(t *testing.T, s string) api.Tx {
	t.Helper()
	x, err := tx.Decode(unhexed(t, s))
	if err != api.OK {
		t.Fatalf("error %d", err)
	}
	return x
}

func TestP12_1Constants(t *testing.T) {
	if !slices.Equal([]int{sighash.All, sighash.None, sighash.Single, sighash.Alone}, []int{1, 2, 3, 0x80}) {
		t.Errorf("the kinds are other ones")
	}
}

func TestP12_1Known(t *testing.T) {
	for k := range 256 {
		want := slices.Contains([]int{1, 2, 3, 0x81, 0x82, 0x83}, k)
		if got := sighash.Known(byte(k)); got != want {
			t.Errorf("Known(%x) = %v", k, got)
		}
	}
}

// expectBoth: the digests of a kind are those of the models.
func expectBoth(t *testing.T, x api.Tx, i int, script []byte, value int64, kind byte) {
	t.Helper()
	if got, want := sighash.Legacy(x, i, script, kind), modelLegacy(x, i, script, kind); got != want {
		t.Fatalf("Legacy of %d inputs and %d outputs, input %d, %d bytes, kind %x: %x; want %x", len(x.In), len(x.Out), i, len(script), kind, got, want)
	}
	if got, want := sighash.Witness(x, i, script, value, kind), modelWitness(x, i, script, value, kind); got != want {
		t.Fatalf("Witness of %d inputs and %d outputs, input %d, %d bytes, value %d, kind %x: %x; want %x", len(x.In), len(x.Out), i, len(script), value, kind, got, want)
	}
}

// TestP12_1Kinds: every kind, at every input.
func TestP12_1Kinds(t *testing.T) {
	for _, x := range some() {
		for _, i := range edges(len(x.In)) {
			for k := range 256 {
				expectBoth(t, x, i, []byte{0xac}, 600000000, byte(k))
			}
		}
	}
}

// TestP12_1Arguments: scripts and values of any size, with the kinds that differ in what they sign.
func TestP12_1Arguments(t *testing.T) {
	for _, x := range some() {
		for _, i := range edges(len(x.In)) {
			for _, k := range []byte{0, 1, 2, 3, 0x81, 0x82, 0x83} {
				for _, script := range scripts() {
					expectBoth(t, x, i, script, 5, k)
				}
				for _, value := range values() {
					expectBoth(t, x, i, []byte{0x51}, value, k)
				}
			}
		}
	}
}

// TestP12_1Numbers: Version, Seq and Lock of any size and sign.
func TestP12_1Numbers(t *testing.T) {
	for _, n := range []uint32{0, 1, 2, 255, 256, 65536, 1 << 24, 1<<31 - 1, 1 << 31, math.MaxUint32} {
		for _, k := range []byte{1, 2, 3, 0x81, 0x82, 0x83} {
			x := txOf(3, 3)
			x.Version = int32(n)
			expectBoth(t, x, 1, nil, 0, k)
			x = txOf(3, 3)
			x.Lock = n
			expectBoth(t, x, 1, nil, 0, k)
			for j := range x.In {
				x = txOf(3, 3)
				x.In[j].Seq = n
				expectBoth(t, x, 1, nil, 0, k)
				x.In[j].Prev.Index = n
				expectBoth(t, x, 1, nil, 0, k)
			}
		}
	}
}

// TestP12_1ManyParts: numbers of inputs and outputs that take one byte and three.
func TestP12_1ManyParts(t *testing.T) {
	for _, n := range [][2]int{{252, 253}, {253, 252}, {300, 2}, {2, 300}, {254, 254}} {
		x := txOf(n[0], n[1])
		for _, i := range []int{0, 1, 2, 251, 252, 253, 254, 299, 300} {
			for _, k := range []byte{0, 1, 2, 3, 4, 31, 0x22, 0x43, 0x81, 0x82, 0x83, 0xe3} {
				expectBoth(t, x, i, []byte{0xac}, 7, k)
			}
		}
	}
}

func TestP12_1Nothing(t *testing.T) {
	one := api.Hash{1}
	for _, x := range some() {
		for _, i := range edges(len(x.In)) {
			for k := range 256 {
				none := i < 0 || i >= len(x.In)
				single := k%32 == 3 && i >= len(x.Out)
				legacy, witness := sighash.Legacy(x, i, nil, byte(k)), sighash.Witness(x, i, nil, 0, byte(k))
				if (legacy == one) != (none || single) || (witness == one) != none {
					t.Fatalf("%d inputs, %d outputs, input %d, kind %x: %x and %x", len(x.In), len(x.Out), i, k, legacy, witness)
				}
			}
		}
	}
}

// TestP12_1Example is the chapter's own.
func TestP12_1Example(t *testing.T) {
	if got := sighash.Legacy(txOf(1, 0), 0, nil, sighash.Single); got != (api.Hash{1}) {
		t.Errorf("%x", got)
	}
}

// TestP12_1Payment: the first payment of the chain of Bitcoin, which its signature is for.
func TestP12_1Payment(t *testing.T) {
	x := decoded(t, "0100000001c997a5e56e104102fa209c6a852dd90660a20b2d9c352423edce25857fcd3704000000004847304402204e45e16932b8af514961a1d3a1a25fdf3f4f7732e9d624c6c61548ab5fb8cd410220181522ec8eca07de4860a4acdd12909d831cc56cbbac4622082221a8768d1d0901ffffffff0200ca9a3b00000000434104ae1a62fe09c5f51b13905f07f06b99a2f7159b2225f374cd378d71302fa28414e7aab37397f554a7df5f142c21c1b7303b8a0626f1baded5c72a704f7e6cd84cac00286bee0000000043410411db93e1dcdb8a016b49840f8c53bc1eb68a382e97b1482ecad7b148a6909a5cb2e0eaddfb84ccf9744464f82e160bfa9b8b64f9d4c03f999b8643f656b412a3ac00000000")
	if id := hash.Text(tx.Id(x)); id != "f4184fc596403b9d638783cf57adfe4c75c605f6356fbc91338530e9831e9e16" {
		t.Fatalf("another transaction: %s", id)
	}
	spent := unhexed(t, "410411db93e1dcdb8a016b49840f8c53bc1eb68a382e97b1482ecad7b148a6909a5cb2e0eaddfb84ccf9744464f82e160bfa9b8b64f9d4c03f999b8643f656b412a3ac")
	pub := append([]byte{3}, spent[2:34]...)
	sig := unhexed(t, "4e45e16932b8af514961a1d3a1a25fdf3f4f7732e9d624c6c61548ab5fb8cd41181522ec8eca07de4860a4acdd12909d831cc56cbbac4622082221a8768d1d09")
	if msg := sighash.Legacy(x, 0, spent, sighash.All); !curve.Verify(pub, msg, sig) {
		t.Errorf("the signature is not for %x", msg)
	}
	if msg := sighash.Legacy(x, 0, spent, sighash.Alone|sighash.All); curve.Verify(pub, msg, sig) {
		t.Errorf("the signature is for another kind, too")
	}
}

// TestP12_1Bip143: the example of BIP 143 that has a digest of each kind.
func TestP12_1Bip143(t *testing.T) {
	x := decoded(t, "010000000136641869ca081e70f394c6948e8af409e18b619df2ed74aa106c1ca29787b96e0100000000ffffffff0200e9a435000000001976a914389ffce9cd9ae88dcc0631e88a821ffdbe9bfe2688acc0832f05000000001976a9147480a33f950689af511e6e84c138dbbd3c3ee41588ac00000000")
	s := unhexed(t, "56210307b8ae49ac90a048e9b53357a2354b3334e9c8bee813ecb98e99a7e07e8c3ba32103b28f0c28bfab54554ae8c658ac5c3e0ce6e79ad336331f78c428dd43eea8449b21034b8113d703413d57761b8b9781957b8c0ac1dfe69f492580ca4195f50376ba4a21033400f6afecb833092a9a21cfdf1ed1376e58c5d1f47de74683123987e967a8f42103a6d48b1131e94ba04d9737d61acdaa1322008af9602b3b14862c07a1789aac162102d8b661b0b3302ee2f162b09e07a55ad5dfbe673a9f01d9f0c19617681024306b56ae")
	for kind, want := range map[byte]string{
		sighash.All:                    "185c0be5263dce5b4bb50a047973c1b6272bfbd0103a89444597dc40b248ee7c",
		sighash.None:                   "e9733bc60ea13c95c6527066bb975a2ff29a925e80aa14c213f686cbae5d2f36",
		sighash.Single:                 "1e1f1c303dc025bd664acb72e583e933fae4cff9148bf78c157d1e8f78530aea",
		sighash.Alone | sighash.All:    "2a67f03e63a6a422125878b40b82da593be8d4efaafe88ee528af6e5a9955c6e",
		sighash.Alone | sighash.None:   "781ba15f3779d5542ce8ecb5c18716733a5ee42a6f51488ec96154934e2c890a",
		sighash.Alone | sighash.Single: "511e8e52ed574121fc1b654970395502128263f62662e076dc6baf05c2e6a99b",
	} {
		if got := sighash.Witness(x, 0, s, 987654321, kind); !bytes.Equal(got[:], unhexed(t, want)) {
			t.Errorf("kind %x: %x; want %s", kind, got, want)
		}
	}
}
