package tx_test

import (
	"testing"

	"strongbox/api"
	"strongbox/hash"
	"strongbox/tx"
)

// The first payment that anybody made in Bitcoin.
const firstPayment = "0100000001c997a5e56e104102fa209c6a852dd90660a20b2d9c352423edce25857fcd3704000000004847304402204e45e16932b8af514961a1d3a1a25fdf3f4f7732e9d624c6c61548ab5fb8cd410220181522ec8eca07de4860a4acdd12909d831cc56cbbac4622082221a8768d1d0901ffffffff0200ca9a3b00000000434104ae1a62fe09c5f51b13905f07f06b99a2f7159b2225f374cd378d71302fa28414e7aab37397f554a7df5f142c21c1b7303b8a0626f1baded5c72a704f7e6cd84cac00286bee0000000043410411db93e1dcdb8a016b49840f8c53bc1eb68a382e97b1482ecad7b148a6909a5cb2e0eaddfb84ccf9744464f82e160bfa9b8b64f9d4c03f999b8643f656b412a3ac00000000"

func TestP9_2KnownId(t *testing.T) {
	x, err := tx.Decode(hexed(t, firstPayment))
	if err != api.OK {
		t.Fatalf("error %d", err)
	}
	want := "f4184fc596403b9d638783cf57adfe4c75c605f6356fbc91338530e9831e9e16"
	if got := hash.Text(tx.Id(x)); got != want {
		t.Errorf("Id = %s", got)
	}
	if got := hash.Text(tx.WitnessId(x)); got != want {
		t.Errorf("WitnessId = %s", got)
	}
	if tx.Size(x) != 275 || tx.Weight(x) != 1100 || tx.Virtual(x) != 275 {
		t.Errorf("Size %d, Weight %d, Virtual %d", tx.Size(x), tx.Weight(x), tx.Virtual(x))
	}
}

func TestP9_2Ids(t *testing.T) {
	all := append(withInputs(), api.Tx{}, api.Tx{Out: plainTx().Out})
	for i, x := range all {
		if tx.Id(x) != hash.Double(tx.Encode(x, false)) {
			t.Errorf("Id of transaction %d", i)
		}
		if tx.WitnessId(x) != hash.Double(tx.Encode(x, true)) {
			t.Errorf("WitnessId of transaction %d", i)
		}
	}
}

// TestP9_2IdWithoutWitness: the Id is the same whatever the witnesses are, and another one if anything else is.
func TestP9_2IdWithoutWitness(t *testing.T) {
	x := withInputs()[3]
	for _, change := range []func(t *api.Tx){
		func(t *api.Tx) { t.In[0].Witness = nil },
		func(t *api.Tx) { t.In[0].Witness = [][]byte{} },
		func(t *api.Tx) { t.In[1].Witness = [][]byte{nil} },
		func(t *api.Tx) { t.In[0].Witness[1][0]++ },
	} {
		y := changed(x, change)
		if tx.Id(y) != tx.Id(x) {
			t.Errorf("the Id depends on a witness")
		}
		if tx.WitnessId(y) == tx.WitnessId(x) {
			t.Errorf("the WitnessId doesn't depend on a witness")
		}
	}
	for i, change := range otherParts() {
		y := changed(x, change)
		if tx.Id(y) == tx.Id(x) || tx.WitnessId(y) == tx.WitnessId(x) {
			t.Errorf("change %d: the same Id", i)
		}
	}
}

// TestP9_2Sizes: weights with every rest.
func TestP9_2Sizes(t *testing.T) {
	x := changed(plainTx(), func(t *api.Tx) { t.In[0].Prev = api.OutPoint{} })
	if tx.Size(x) != 60 || tx.Weight(x) != 240 || tx.Virtual(x) != 60 {
		t.Errorf("Size %d, Weight %d, Virtual %d", tx.Size(x), tx.Weight(x), tx.Virtual(x))
	}
	// Beside the item there are the two bytes of the second form, and the sizes of the witness and of the item.
	for n, virtual := range []int{61, 62, 62, 62, 62, 63, 63, 63, 63, 64} {
		x.In[0].Witness = [][]byte{make([]byte, n)}
		if tx.Size(x) != 64+n || tx.Weight(x) != 244+n || tx.Virtual(x) != virtual {
			t.Errorf("%d bytes: Size %d, Weight %d, Virtual %d; want Virtual %d", n, tx.Size(x), tx.Weight(x), tx.Virtual(x), virtual)
		}
	}
	if nothing := (api.Tx{}); tx.Size(nothing) != 10 || tx.Weight(nothing) != 40 || tx.Virtual(nothing) != 10 {
		t.Errorf("nothing: Size %d, Weight %d, Virtual %d", tx.Size(nothing), tx.Weight(nothing), tx.Virtual(nothing))
	}
	for i, x := range withInputs() {
		size, bare := len(tx.Encode(x, true)), len(tx.Encode(x, false))
		weight := 3*bare + size
		if tx.Size(x) != size || tx.Weight(x) != weight || tx.Virtual(x) != weight/4+min(weight%4, 1) {
			t.Errorf("transaction %d: Size %d, Weight %d, Virtual %d", i, tx.Size(x), tx.Weight(x), tx.Virtual(x))
		}
	}
}
