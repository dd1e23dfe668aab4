package sighash_test

import (
	"bytes"
	"reflect"
	"testing"

	"strongbox/api"
	"strongbox/sighash"
)

// spare returns a copy with other bytes behind it.
func spare(b []byte) []byte {
	return append(append(make([]byte, 0, len(b)+9), b...), "spare"...)[:len(b)]
}

// roomy returns a transaction all of whose lists have spare capacity that is used.
func roomy(ins, outs int) api.Tx {
	t := txOf(ins, outs)
	for i := range t.In {
		t.In[i].Script = spare(t.In[i].Script)
		for j := range t.In[i].Witness {
			t.In[i].Witness[j] = spare(t.In[i].Witness[j])
		}
		t.In[i].Witness = append(t.In[i].Witness, []byte("spare"))[:len(t.In[i].Witness)]
	}
	for i := range t.Out {
		t.Out[i].Script = spare(t.Out[i].Script)
	}
	t.In = append(t.In, input(90), input(91))[:ins]
	t.Out = append(t.Out, output(90), output(91))[:outs]
	return t
}

// whole returns a copy of all memory of a transaction, with the spare capacity of its lists.
func whole(t api.Tx) []any {
	all := []any{t.Version, t.Lock, len(t.In), len(t.Out)}
	for _, in := range t.In[:cap(t.In)] {
		all = append(all, in.Prev, in.Seq, len(in.Script), len(in.Witness), bytes.Clone(in.Script[:cap(in.Script)]))
		for _, item := range in.Witness[:cap(in.Witness)] {
			all = append(all, len(item), bytes.Clone(item[:cap(item)]))
		}
	}
	for _, out := range t.Out[:cap(t.Out)] {
		all = append(all, out.Value, len(out.Script), bytes.Clone(out.Script[:cap(out.Script)]))
	}
	return all
}

func TestP12_3Arguments(t *testing.T) {
	for _, n := range [][2]int{{1, 0}, {1, 1}, {3, 4}, {4, 2}} {
		for k := range 256 {
			x, script := roomy(n[0], n[1]), spare([]byte{0x51, 0xac})
			before, scriptBefore := whole(x), bytes.Clone(script[:cap(script)])
			var first []api.Hash
			for range 2 {
				for i := -1; i <= n[0]; i++ {
					first = append(first, sighash.Legacy(x, i, script, byte(k)), sighash.Witness(x, i, script, 7, byte(k)))
				}
			}
			if !reflect.DeepEqual(whole(x), before) || !bytes.Equal(script[:cap(script)], scriptBefore) {
				t.Fatalf("%d inputs, kind %x: an argument was changed", n[0], k)
			}
			half := len(first) / 2
			if !reflect.DeepEqual(first[:half], first[half:]) {
				t.Fatalf("%d inputs, kind %x: another digest at the second call", n[0], k)
			}
		}
	}
}

// TestP12_3Results: nothing is kept from one call to the next, and no result shares memory with another.
func TestP12_3Results(t *testing.T) {
	x, script := roomy(2, 2), []byte{0xac}
	first := sighash.Legacy(x, 0, script, sighash.All)
	second := sighash.Witness(x, 0, script, 7, sighash.All)
	nothing := sighash.Legacy(x, 2, script, sighash.All)
	clear(first[:])
	clear(second[:])
	clear(nothing[:])
	script[0], x.In[0].Script, x.In[1].Seq, x.Out[0].Value = 0xad, nil, 5, 6
	if sighash.Legacy(x, 0, script, sighash.All) != modelLegacy(x, 0, script, sighash.All) {
		t.Errorf("Legacy kept an argument, or shares memory with a result")
	}
	if sighash.Witness(x, 0, script, 7, sighash.All) != modelWitness(x, 0, script, 7, sighash.All) {
		t.Errorf("Witness kept an argument, or shares memory with a result")
	}
	if sighash.Legacy(x, 2, script, sighash.All) != (api.Hash{1}) {
		t.Errorf("two results share memory")
	}
}
