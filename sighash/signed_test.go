package sighash_test

import (
	"slices"
	"testing"

	"strongbox/api"
	"strongbox/sighash"
	"strongbox/tx"
)

// order is what is signed: a transaction, and the other arguments.
type order struct {
	tx     api.Tx
	i      int
	script []byte
	value  int64
	kind   byte
}

func (o order) legacy() api.Hash { return sighash.Legacy(o.tx, o.i, o.script, o.kind) }

func (o order) witness() api.Hash { return sighash.Witness(o.tx, o.i, o.script, o.value, o.kind) }

// chosen returns what the lowest five bits say, and whether the bit Alone is set.
func (o order) chosen() (none, single, alone bool) {
	return o.kind&31 == 2, o.kind&31 == 3, o.kind&0x80 != 0
}

// change is a change of one thing, and whether that thing is signed.
type change struct {
	what            string
	apply           func(o *order)
	legacy, witness bool
}

// expectChange: a digest changes if and only if what is changed is signed.
func expectChange(t *testing.T, o order, c change) {
	t.Helper()
	changed := o
	changed.tx = tx.Clone(o.tx)
	c.apply(&changed)
	if (changed.legacy() != o.legacy()) != c.legacy {
		t.Errorf("kind %x, input %d: %s: signed by Legacy: %v", o.kind, o.i, c.what, !c.legacy)
	}
	if (changed.witness() != o.witness()) != c.witness {
		t.Errorf("kind %x, input %d: %s: signed by Witness: %v", o.kind, o.i, c.what, !c.witness)
	}
}

// always are changes of what every kind signs.
func always(o order) []change {
	i := o.i
	return []change{
		{"Version", func(o *order) { o.tx.Version++ }, true, true},
		{"the sign of Version", func(o *order) { o.tx.Version ^= -1 << 31 }, true, true},
		{"Lock", func(o *order) { o.tx.Lock++ }, true, true},
		{"the top of Lock", func(o *order) { o.tx.Lock ^= 1 << 31 }, true, true},
		{"own Hash", func(o *order) { o.tx.In[i].Prev.Hash[0]++ }, true, true},
		{"own Hash at its end", func(o *order) { o.tx.In[i].Prev.Hash[31]++ }, true, true},
		{"own Index", func(o *order) { o.tx.In[i].Prev.Index++ }, true, true},
		{"own Seq", func(o *order) { o.tx.In[i].Seq++ }, true, true},
		{"the top of own Seq", func(o *order) { o.tx.In[i].Seq ^= 1 << 31 }, true, true},
		{"the script", func(o *order) { o.script = []byte{0x52, 0xac} }, true, true},
		{"a longer script", func(o *order) { o.script = []byte{0x51, 0xac, 0} }, true, true},
		{"no script", func(o *order) { o.script = nil }, true, true},
		{"the value", func(o *order) { o.value++ }, false, true},
		{"the sign of the value", func(o *order) { o.value = -o.value }, false, true},
		{"the top of the value", func(o *order) { o.value ^= -1 << 63 }, false, true},
		{"own Script", func(o *order) { o.tx.In[i].Script = []byte{1, 2, 3, 4, 5, 6} }, false, false},
		{"no own Script", func(o *order) { o.tx.In[i].Script = nil }, false, false},
		{"own Witness", func(o *order) { o.tx.In[i].Witness[1][0]++ }, false, false},
		{"no own Witness", func(o *order) { o.tx.In[i].Witness = nil }, false, false},
		{"all Witnesses", func(o *order) {
			for j := range o.tx.In {
				o.tx.In[j].Witness = [][]byte{nil, {byte(j)}, {1, 2, 3}}
			}
		}, false, false},
	}
}

// ofInput are changes of another input, at j.
func ofInput(o order, j int) []change {
	none, single, alone := o.chosen()
	seqs := !alone && !none && !single
	return []change{
		{"another Hash", func(o *order) { o.tx.In[j].Prev.Hash[5]++ }, !alone, !alone},
		{"another Index", func(o *order) { o.tx.In[j].Prev.Index++ }, !alone, !alone},
		{"another Seq", func(o *order) { o.tx.In[j].Seq++ }, seqs, seqs},
		{"another Seq is 0", func(o *order) { o.tx.In[j].Seq = 0 }, seqs, seqs},
		{"another Script", func(o *order) { o.tx.In[j].Script = []byte{1, 2, 3, 4, 5, 6} }, false, false},
		{"no other Script", func(o *order) { o.tx.In[j].Script = nil }, false, false},
		{"another Witness", func(o *order) { o.tx.In[j].Witness[1][1]++ }, false, false},
		{"no other Witness", func(o *order) { o.tx.In[j].Witness = nil }, false, false},
		{"another place in the list", func(o *order) { swapBehind(o, j) }, !alone, !alone},
		{"another input is gone", func(o *order) {
			if j > o.i {
				o.tx.In = slices.Delete(o.tx.In, j, j+1)
			} else {
				o.tx.In[j] = input(77)
			}
		}, !alone, !alone},
		{"one more input", func(o *order) { o.tx.In = append(o.tx.In, input(78)) }, !alone, !alone},
		{"one more input behind", func(o *order) { o.tx.In = slices.Insert(o.tx.In, o.i+1, input(79)) }, !alone, !alone},
	}
}

// swapBehind changes the place of input j with another one that is not signed on its own.
func swapBehind(o *order, j int) {
	for k := range o.tx.In {
		if k != j && k != o.i {
			o.tx.In[j], o.tx.In[k] = o.tx.In[k], o.tx.In[j]
			return
		}
	}
}

// ofOutput are changes of output j.
func ofOutput(o order, j int) []change {
	none, single, _ := o.chosen()
	signed := !none && (!single || j == o.i)
	// With Single and without an output of its own, Legacy signs nothing.
	there := !none && (!single || o.i < len(o.tx.Out))
	return []change{
		{"a Value", func(o *order) { o.tx.Out[j].Value++ }, signed, signed},
		{"the sign of a Value", func(o *order) { o.tx.Out[j].Value ^= -1 << 63 }, signed, signed},
		{"a Script", func(o *order) { o.tx.Out[j].Script[0]++ }, signed, signed},
		{"a longer Script", func(o *order) { o.tx.Out[j].Script = append(o.tx.Out[j].Script, 0) }, signed, signed},
		{"no Script", func(o *order) { o.tx.Out[j].Script = nil }, signed, signed},
		{"one more output at the end", func(o *order) { o.tx.Out = append(o.tx.Out, output(99)) }, there && !single, !none && !single},
		{"the outputs behind j are others", func(o *order) {
			o.tx.Out = append(o.tx.Out[:j+1], output(50), output(51), output(52), output(53), output(54))
		}, there && (!single || j < o.i), !none && (!single || j < o.i)},
	}
}

func TestP12_2Changes(t *testing.T) {
	for k := range 256 {
		for _, i := range []int{0, 1, 3} {
			o := order{tx: txOf(4, 5), i: i, script: []byte{0x51, 0xac}, value: 12345, kind: byte(k)}
			list := always(o)
			for j := range o.tx.In {
				if j != i {
					list = append(list, ofInput(o, j)...)
				}
			}
			for j := range o.tx.Out {
				list = append(list, ofOutput(o, j)...)
			}
			for _, c := range list {
				expectChange(t, o, c)
			}
		}
	}
}

// TestP12_2Kinds: the kind itself is signed, whatever its bits say.
func TestP12_2Kinds(t *testing.T) {
	seen := map[api.Hash]int{}
	for k := range 256 {
		o := order{tx: txOf(3, 3), i: 1, script: []byte{0xac}, value: 5, kind: byte(k)}
		seen[o.legacy()]++
		seen[o.witness()]++
	}
	if len(seen) != 512 {
		t.Errorf("%d digests of 256 kinds; want 512", len(seen))
	}
}

// TestP12_2None: with None all outputs can change, and their number too.
func TestP12_2None(t *testing.T) {
	for _, k := range []byte{2, 0x82, 0x22, 0x62, 0xe2} {
		for i := range 3 {
			o := order{tx: txOf(3, 5), i: i, script: []byte{0xac}, value: 5, kind: k}
			for outs := range 7 {
				expectChange(t, o, change{"the outputs", func(o *order) { o.tx.Out = txOf(0, outs).Out }, false, false})
			}
			expectChange(t, o, change{"no outputs", func(o *order) { o.tx.Out = nil }, false, false})
		}
	}
}

// TestP12_2Single: with Single what is behind output i can change. Of what is before it Legacy signs the number, and Witness nothing.
func TestP12_2Single(t *testing.T) {
	for _, k := range []byte{3, 0x83, 0x23, 0x63, 0xe3} {
		for i := range 4 {
			o := order{tx: txOf(4, 6), i: i, script: []byte{0xac}, value: 5, kind: k}
			expectChange(t, o, change{"nothing behind", func(o *order) { o.tx.Out = o.tx.Out[:o.i+1] }, false, false})
			expectChange(t, o, change{"others behind", func(o *order) { o.tx.Out = append(o.tx.Out[:o.i+1], output(60), output(61)) }, false, false})
			expectChange(t, o, change{"no output of its own", func(o *order) { o.tx.Out = o.tx.Out[:o.i] }, true, true})
			expectChange(t, o, change{"other ones before", func(o *order) {
				for j := range o.i {
					o.tx.Out[j] = output(70 + j)
				}
			}, false, false})
			// Without outputs i and following Legacy signs nothing at all, and Witness no output.
			o.tx.Out = o.tx.Out[:i]
			expectChange(t, o, change{"other ones before, none of its own", func(o *order) { o.tx.Out = nil }, false, false})
			expectChange(t, o, change{"Version, none of its own", func(o *order) { o.tx.Version++ }, false, true})
		}
	}
}

// TestP12_2Alone: with Alone all other inputs can change, and their number too.
func TestP12_2Alone(t *testing.T) {
	for k := 128; k < 256; k++ {
		o := order{tx: txOf(3, 5), i: 1, script: []byte{0xac}, value: 5, kind: byte(k)}
		for _, others := range []int{0, 1, 2, 300} {
			expectChange(t, o, change{"the inputs behind", func(o *order) {
				o.tx.In = append(o.tx.In[:2], txOf(others, 0).In...)
			}, false, false})
		}
		if k%32 == 3 {
			continue // Single signs the output at the input's own place.
		}
		for _, before := range []int{0, 1, 2, 300} {
			expectChange(t, o, change{"the inputs before", func(o *order) {
				o.i = before
				o.tx.In = append(txOf(before, 0).In, o.tx.In[1:]...)
			}, false, false})
		}
	}
}
