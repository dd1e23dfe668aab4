package tx_test

import (
	"encoding/hex"
	"strings"
	"testing"

	"strongbox/api"
	"strongbox/tx"
)

// hexed returns the bytes whose digits a text has, beside spaces.
func hexed(t *testing.T, s string) []byte {
	t.Helper()
	b, err := hex.DecodeString(strings.ReplaceAll(s, " ", ""))
	if err != nil {
		t.Fatal(err)
	}
	return b
}

// fill returns n bytes that tell the places of a list apart.
func fill(n int, seed byte) []byte {
	b := make([]byte, n)
	for i := range b {
		b[i] = seed + byte(i*7)
	}
	return b
}

// digest returns a digest all of whose bytes differ.
func digest(seed byte) api.Hash { return api.Hash(fill(32, seed)) }

func emptyPlace() api.OutPoint { return api.OutPoint{Index: 1<<32 - 1} }

// plainTx returns a transaction with one input and one output, which nothing is wrong with.
func plainTx() api.Tx {
	return api.Tx{Version: 2, In: []api.TxIn{{Prev: api.OutPoint{Hash: digest(1), Index: 3}, Seq: 7}}, Out: []api.TxOut{{Value: 5}}}
}

// coinbase returns one with a Script of n bytes.
func coinbase(n int) api.Tx {
	t := plainTx()
	t.In[0].Prev, t.In[0].Script = emptyPlace(), fill(n, 1)
	return t
}

// changed returns a changed copy.
func changed(t api.Tx, change func(t *api.Tx)) api.Tx {
	u := tx.Clone(t)
	change(&u)
	return u
}

// great returns a transaction with many of everything.
func great() api.Tx {
	t := api.Tx{Version: -1 << 31, Lock: 1<<32 - 1}
	for i := range 300 {
		in := api.TxIn{Prev: api.OutPoint{Hash: digest(byte(i)), Index: uint32(i) << 22}, Script: fill(i%3*127, byte(i)), Seq: uint32(i) * 0x01020304}
		if i%3 == 0 {
			in.Witness = [][]byte{fill(i, 2), nil, fill(3, 4)}
		}
		t.In = append(t.In, in)
		t.Out = append(t.Out, api.TxOut{Value: int64(i) << 50, Script: fill(i%4, 8)})
	}
	return t
}

// withInputs returns transactions that Decode can return.
func withInputs() []api.Tx {
	two := api.Tx{
		Version: -2, Lock: 0x81828384,
		In: []api.TxIn{
			{Prev: api.OutPoint{Hash: digest(9), Index: 1<<32 - 2}, Script: fill(3, 5), Seq: 0x0a0b0c0d, Witness: [][]byte{{}, {1}}},
			{Prev: api.OutPoint{Hash: digest(7)}, Seq: 1<<32 - 1},
		},
		Out: []api.TxOut{{Value: -1, Script: fill(2, 6)}, {Value: 1<<63 - 1}, {Value: -1 << 63, Script: fill(253, 6)}},
	}
	none := plainTx()
	none.Out = nil
	return []api.Tx{
		plainTx(), coinbase(2), none, two, great(),
		changed(plainTx(), func(t *api.Tx) { t.In[0].Witness = [][]byte{{}} }),
		changed(plainTx(), func(t *api.Tx) { t.In[0].Witness = [][]byte{{}, {}, fill(520, 3)} }),
		changed(none, func(t *api.Tx) { t.In[0].Witness = [][]byte{{9}} }),
		changed(plainTx(), func(t *api.Tx) { t.Version, t.Lock = 1<<31-1, 1 }),
	}
}

// model reads a transaction step by step, as the document says it; after the first error it reads nothing.
type model struct {
	rest []byte
	err  api.Errno
}

func (m *model) fail(err api.Errno) {
	if m.err == api.OK {
		m.err = err
	}
}

func (m *model) take(n int) []byte {
	if n > len(m.rest) {
		m.fail(api.ErrEnd)
	}
	if m.err != api.OK {
		return nil
	}
	part := m.rest[:n:n]
	m.rest = m.rest[n:]
	return part
}

func (m *model) number(width int) (n uint64) {
	for i, b := range m.take(width) {
		n |= uint64(b) << (8 * i)
	}
	return n
}

func (m *model) size(most int) int {
	n, least := m.number(1), uint64(0)
	switch n {
	case 253:
		n, least = m.number(2), 253
	case 254:
		n, least = m.number(4), 1<<16
	case 255:
		n, least = m.number(8), 1<<32
	}
	if n < least {
		m.fail(api.ErrForm)
	}
	if n > uint64(most) {
		m.fail(api.ErrSize)
	}
	if m.err != api.OK {
		return 0
	}
	return int(n)
}

func (m *model) list() []byte { return m.take(m.size(100000)) }

func (m *model) input() api.TxIn {
	var in api.TxIn
	copy(in.Prev.Hash[:], m.take(32))
	in.Prev.Index = uint32(m.number(4))
	in.Script = m.list()
	in.Seq = uint32(m.number(4))
	return in
}

func (m *model) tx() api.Tx {
	t := api.Tx{Version: int32(m.number(4))}
	n := m.size(25000)
	second := n == 0 && m.err == api.OK
	if second {
		if m.number(1) != 1 {
			m.fail(api.ErrForm)
		}
		n = m.size(25000)
	}
	for i := 0; i < n && m.err == api.OK; i++ {
		t.In = append(t.In, m.input())
	}
	n = m.size(25000)
	for i := 0; i < n && m.err == api.OK; i++ {
		t.Out = append(t.Out, api.TxOut{Value: int64(m.number(8)), Script: m.list()})
	}
	items := 0
	for i := 0; i < len(t.In) && second; i++ {
		for range m.size(25000) {
			t.In[i].Witness = append(t.In[i].Witness, m.list())
			items++
		}
	}
	t.Lock = uint32(m.number(4))
	if second && items == 0 || len(m.rest) > 0 {
		m.fail(api.ErrForm)
	}
	return t
}

// modelDecode is Decode as the model has it.
func modelDecode(b []byte) (api.Tx, api.Errno) {
	if len(b) > 100000 {
		return api.Tx{}, api.ErrSize
	}
	m := &model{rest: b}
	t := m.tx()
	if m.err != api.OK {
		return api.Tx{}, m.err
	}
	return t, api.OK
}
