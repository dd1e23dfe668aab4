package pool_test

import (
	"bytes"
	"math"
	"math/rand"
	"slices"
	"testing"

	"strongbox/api"
	"strongbox/chain"
	"strongbox/hash"
	"strongbox/tx"
)

// hidden returns an output that a witness opens, which counts only a quarter.
func hidden() (api.TxOut, [][]byte) {
	s := append(bytes.Repeat([]byte{0x61}, 30), 0x51)
	program := hash.Sum256(s)
	return api.TxOut{Value: 1000, Script: append([]byte{0, 32}, program[:]...)}, [][]byte{s}
}

// TestP18_1Example is the chapter's example.
func TestP18_1Example(t *testing.T) {
	c, at := rich(t)
	p := newPair(1000)
	p.take(t, "one", c, spending(open(999000), at[0]), api.OK)
	p.take(t, "the same fee", c, spending([]api.TxOut{{Value: 999000, Script: []byte{0x52}}}, at[0]), api.ErrClash)
	p.take(t, "a greater fee", c, spending(open(990000), at[0]), api.OK)
	if len(p.List()) != 1 || p.List()[0].Fee != 10000 {
		t.Errorf("%d wait", len(p.List()))
	}
}

func TestP18_1Form(t *testing.T) {
	c, at := rich(t)
	p := newPair(100000)
	coinbase := spending(open(1), api.OutPoint{Index: math.MaxUint32})
	coinbase.In[0].Script = []byte{1, 2}
	short := tx.Clone(coinbase)
	short.In[0].Script = []byte{1}
	bad := tx.Clone(coinbase)
	bad.Out[0].Value = -1
	great := spending(open(1), at[0])
	great.Out[0].Script = make([]byte, 100000)
	for _, c2 := range []struct {
		what string
		x    api.Tx
		err  api.Errno
	}{
		{"nothing", api.Tx{}, api.ErrForm},
		{"no input", spending(open(1)), api.ErrForm},
		{"no output", spending(nil, at[0]), api.ErrForm},
		{"a great one", great, api.ErrSize},
		{"a value", spending(open(-1), at[0]), api.ErrRange},
		{"a place twice", spending(open(1), at[0], at[0]), api.ErrClash},
		{"the empty place", spending(open(1), at[0], api.OutPoint{Index: math.MaxUint32}), api.ErrNone},
		{"a coinbase", coinbase, api.ErrForm},
		{"a short coinbase", short, api.ErrForm},
		{"a coinbase that Check refuses", bad, api.ErrRange},
	} {
		p.take(t, c2.what, c, c2.x, c2.err)
	}
}

// TestP18_1There: a waiting one is there whatever became of its coins, and with any witness.
func TestP18_1There(t *testing.T) {
	c, at := rich(t)
	p := newPair(100000)
	x := spending(open(7), at[0])
	p.take(t, "one", c, x, api.OK)
	p.take(t, "once more", c, x, api.ErrThere)
	y := tx.Clone(x)
	y.In[0].Witness = [][]byte{{1}}
	p.take(t, "with a witness", c, y, api.ErrThere)
	p.take(t, "without its coin", chain.New(), x, api.ErrThere)
	p.take(t, "another one without its coin", chain.New(), spending(open(8), at[0]), api.ErrSpent)
	follow(t, c, c.Tip(), 100, open(1), x)
	p.take(t, "on the chain", c, x, api.ErrThere)
	p.refresh(t, "Refresh", c)
	p.take(t, "on the chain, but not waiting", c, x, api.ErrSpent)
}

// TestP18_1Fits: the errors of layer 16, for the next height and the median of the best block.
func TestP18_1Fits(t *testing.T) {
	c, at := rich(t)
	p := newPair(100000)
	waiting := spending(open(500000, 400000), at[0])
	p.take(t, "one", c, waiting, api.OK)
	p.take(t, "no such coin", c, spending(open(1), api.OutPoint{Hash: api.Hash{5}}), api.ErrSpent)
	p.take(t, "no such output of a waiting one", c, spending(open(1), made(waiting, 2)), api.ErrSpent)
	p.take(t, "the greatest index", c, spending(open(1), api.OutPoint{Hash: tx.Id(waiting), Index: math.MaxUint32}), api.ErrSpent)
	p.take(t, "more than there is", c, spending(open(500001), made(waiting, 0)), api.ErrRange)
	p.take(t, "both outputs", c, spending(open(899000), made(waiting, 1), made(waiting, 0)), api.OK)
	fails := spending(open(1), at[1])
	fails.In[0].Script = []byte{0x51}
	p.take(t, "a script", c, fails, api.ErrScript)
	for h, want := range map[int]api.Errno{4: api.OK, 5: api.ErrEarly} {
		b, _ := c.At(h)
		p.take(t, "a coinbase at 13", c, spending(open(1), made(b.Txs[0], 3)), want)
	}
	median := c.Tree().Median(c.Tip())
	for i, lock := range []uint32{13, 14, median - 1, median} {
		x := spending(open(1), at[2+i])
		x.Lock, x.In[0].Seq = lock, 0
		p.take(t, "a Lock", c, x, []api.Errno{api.OK, api.ErrEarly}[i%2])
	}
}

// TestP18_1Young: outputs of waiting ones can be spent in the next block, however young they are.
func TestP18_1Young(t *testing.T) {
	c, at := rich(t)
	p := newPair(100000)
	x := spending(open(900000), at[0])
	for i := range 20 {
		p.take(t, "one behind the other", c, x, api.OK)
		x = spending(open(900000-int64(i+1)*100), made(x, 0))
	}
	if len(p.Behind(p.List()[0].Id)) != 19 {
		t.Errorf("%d are behind the first one", len(p.Behind(p.List()[0].Id)))
	}
}

// TestP18_1Fee: for each virtual byte one hundred millionth is to be paid.
func TestP18_1Fee(t *testing.T) {
	c, at := rich(t)
	out, witness := hidden()
	first := spending([]api.TxOut{out}, at[0])
	follow(t, c, c.Tip(), 100, open(1), first)
	plain, opened, great := spending(open(0), at[1]), spending(open(0), made(first, 0)), spending(open(make([]int64, 500)...), at[1])
	opened.In[0].Witness = witness
	for i, x := range []api.Tx{plain, opened, great} {
		has := []int64{1000000, 1000, 1000000}[i]
		size := int64(tx.Virtual(x))
		if i == 1 && (size == int64(tx.Size(x)) || tx.Weight(x)%4 == 0) {
			t.Fatalf("the sizes don't differ")
		}
		for fee, want := range map[int64]api.Errno{0: api.ErrFee, size - 1: api.ErrFee, size: api.OK, size + 1: api.OK} {
			y := tx.Clone(x)
			y.Out[0].Value = has - fee
			p := newPair(100000)
			p.take(t, "a fee", c, y, want)
			if want == api.OK && p.Size() != int(size) {
				t.Errorf("%d bytes wait; want %d", p.Size(), size)
			}
		}
	}
}

// TestP18_1Greatest: for more bytes than a block may have there is no fee that suffices.
func TestP18_1Greatest(t *testing.T) {
	c, at := rich(t)
	s := append(bytes.Repeat([]byte{0x6d}, 201), 0x51)
	program := hash.Sum256(s)
	out := api.TxOut{Value: 10000000 / 25, Script: append([]byte{0, 32}, program[:]...)}
	var witness [][]byte
	for range 402 {
		witness = append(witness, make([]byte, api.MaxItem))
	}
	first := spending(slices.Repeat([]api.TxOut{out}, 25), at[:20]...)
	follow(t, c, c.Tip(), 100, open(1), first)
	x := spending(open(0))
	for i := range uint32(18) {
		x.In = append(x.In, api.TxIn{Prev: made(first, i), Seq: math.MaxUint32, Witness: append(witness, s)})
	}
	p := newPair(math.MaxInt)
	if size := tx.Virtual(x); size > api.MaxBlock {
		t.Fatalf("%d bytes", size)
	}
	p.take(t, "a great one", c, x, api.OK)
	p = newPair(math.MaxInt)
	x.In = append(x.In, api.TxIn{Prev: made(first, 20), Seq: math.MaxUint32, Witness: append(witness, s)})
	if size := tx.Virtual(x); size <= api.MaxBlock {
		t.Fatalf("%d bytes", size)
	}
	if err := p.Add(c, x); err != api.ErrFee || p.Size() != 0 {
		t.Errorf("Add: error %d", err)
	}
}

// TestP18_1Replace: edges of what a transaction has to pay to replace two others.
func TestP18_1Replace(t *testing.T) {
	c, at := rich(t)
	// both have 61 bytes, and so has the one behind; a transaction with two inputs and one output has 102
	first, second := spending(open(999900), at[0]), spending(open(999800), at[1])
	behind := spending(open(990000), made(first, 0))
	for fee, want := range map[int64]api.Errno{100 + 200 + 9900 + 102: api.OK, 100 + 200 + 9900 + 101: api.ErrClash, 300: api.ErrClash, 10000: api.ErrClash, 1000000: api.OK} {
		p := newPair(100000)
		for _, x := range []api.Tx{first, second, behind, spending(open(1), at[2])} {
			p.take(t, "what is replaced", c, x, api.OK)
		}
		p.take(t, "a rival of two", c, spending(open(2000000-fee), at[0], at[1]), want)
		if want == api.OK && len(p.List()) != 2 {
			t.Errorf("%d wait", len(p.List()))
		}
	}
}

// TestP18_1Rate: the rate must exceed that of each rival, but not of those behind.
func TestP18_1Rate(t *testing.T) {
	c, at := rich(t)
	rival := spending(open(1000000-610), at[0]) // 10 for each of 61 bytes
	if tx.Virtual(rival) != 61 {
		t.Fatalf("%d bytes", tx.Virtual(rival))
	}
	great := spending(append(open(0), open(0, 0, 0)...), at[0])
	size := int64(tx.Virtual(great))
	for fee, want := range map[int64]api.Errno{10*size - 1: api.ErrClash, 10 * size: api.ErrClash, 10*size + 1: api.OK} {
		p := newPair(100000)
		p.take(t, "a rival", c, rival, api.OK)
		x := tx.Clone(great)
		x.Out[0].Value = 1000000 - fee
		if fee < 610+size {
			t.Fatalf("the fee %d is too little anyway", fee)
		}
		p.take(t, "at its rate", c, x, want)
		p = newPair(100000)
		p.take(t, "a rival", c, rival, api.OK)
		p.take(t, "a cheap rival", c, spending(open(1000000-61), at[1]), api.OK)
		x.In = append(x.In, api.TxIn{Prev: at[1], Seq: math.MaxUint32})
		x.Out[0].Value = 2000000 - 10*int64(tx.Virtual(x)) + (10*size - fee)
		p.take(t, "beside a cheap rival", c, x, want)
	}
	p := newPair(100000)
	p.take(t, "a rival", c, spending(append(open(0), open(0, 0, 0, 999800)...), at[0]), api.OK)
	p.take(t, "a small one behind", c, spending(open(999800-20000), made(p.List()[0].Tx, 4)), api.OK)
	rest := spending(slices.Repeat(open(0), 100), at[0])
	rest.Out[0].Value = 1000000 - 20000 - 200 - int64(tx.Virtual(rest))
	p.take(t, "a great one at a lower rate than the one behind", c, rest, api.OK)
}

// TestP18_1Fifty: no more than fifty can be replaced.
func TestP18_1Fifty(t *testing.T) {
	c, at := rich(t)
	for n, want := range map[int]api.Errno{49: api.OK, 50: api.OK, 51: api.ErrClash} {
		p := newPair(100000)
		x := spending(open(900000), at[0])
		for i := range n {
			p.take(t, "one behind the other", c, x, api.OK)
			x = spending(open(900000-int64(i+1)*100), made(x, 0))
		}
		p.take(t, "a rival of the first one", c, spending(open(1), at[0]), want)
	}
}

// TestP18_1FiftyRivals counts rivals, not only those behind.
func TestP18_1FiftyRivals(t *testing.T) {
	c, at := rich(t)
	for n, want := range map[int]api.Errno{50: api.OK, 51: api.ErrClash} {
		p := newPair(100000)
		for i := range n {
			p.take(t, "rivals", c, spending(open(1000000-61), at[i]), api.OK)
		}
		p.take(t, "a rival of all", c, spending(open(1), at[:n]...), want)
	}
}

// TestP18_1InWay: what is in the way can't be spent.
func TestP18_1InWay(t *testing.T) {
	c, at := rich(t)
	p := newPair(100000)
	list := family(at)
	for _, x := range list {
		p.take(t, "a family", c, x, api.OK)
	}
	p.take(t, "a rival's output", c, spending(open(1), at[0], made(list[0], 1)), api.ErrSpent)
	p.take(t, "an output of one behind", c, spending(open(1), at[0], made(list[5], 0)), api.ErrSpent)
	p.take(t, "an output of one beside", c, spending(open(1), made(list[1], 0), made(list[6], 0)), api.OK)
	if len(p.List()) != 7 {
		t.Errorf("%d wait", len(p.List()))
	}
}

// Errors that a transaction can have at once, in the order in which Add tells them.
const (
	badCheck = 1 << iota
	badPlace
	badFee
	badRival
	badRoom
	allBad
)

func TestP18_1Order(t *testing.T) {
	c, at := rich(t)
	for bad := range allBad {
		x := spending(open(1000000), at[0], at[1])
		want, most := api.OK, 100000
		rival := spending(open(999000), at[0])
		if bad&badRoom != 0 {
			most, want = 61+101, api.ErrFull
			if bad&badRival == 0 {
				most = 101
			}
		}
		if bad&badRival != 0 {
			rival = spending(open(1), at[0])
			want = api.ErrClash
		}
		if bad&badFee != 0 {
			x.Out[0].Value, want = 2000000-101, api.ErrFee
		}
		if bad&badPlace != 0 {
			x.In[1].Prev, x.Out[0].Value, want = api.OutPoint{Hash: api.Hash{4}}, 2000000, api.ErrSpent
		}
		if bad&badCheck != 0 {
			x.In = append(x.In, x.In[0])
			want = api.ErrClash
		}
		p := newPair(most)
		p.take(t, "a rival", c, rival, api.OK)
		p.take(t, "one with errors", c, x, want)
	}
}

// TestP18_1Evict: the lowest rate goes first, of several the one that was accepted last, with all behind.
func TestP18_1Evict(t *testing.T) {
	c, at := rich(t)
	fees := func(most int, list ...int64) *pair {
		p := newPair(most)
		for i, fee := range list {
			p.take(t, "those that wait", c, spending(open(1000000-fee), at[i]), api.OK)
		}
		return p
	}
	p := fees(61*4, 100, 90, 200, 95)
	p.take(t, "the cheapest one goes", c, spending(open(1000000-91), at[9]), api.OK)
	p.take(t, "it is the cheapest one itself", c, spending(open(1000000-90), at[10]), api.ErrFull)
	p.take(t, "it is the last one of two", c, spending(open(1000000-91), at[10]), api.ErrFull)
	p.take(t, "it isn't", c, spending(open(1000000-92), at[10]), api.OK)
	p = fees(61*4+60, 100, 100, 100)
	p.take(t, "the room suffices", c, spending(open(1000000-100), at[9]), api.OK)
	p.take(t, "the last one of four goes", c, spending(open(1000000-101), at[10]), api.OK)
	for i, e := range p.List()[:3] {
		if e.Tx.In[0].Prev != at[i] {
			t.Errorf("the entry %d is another one", i)
		}
	}
	p = fees(61*4, 100, 90, 200, 95)
	great := spending(slices.Repeat(open(0), 8), at[9])
	great.Out[0].Value = 1000000 - 3*int64(tx.Virtual(great))
	p.take(t, "several go", c, great, api.OK)
	p = fees(61*4, 100, 90, 200, 1000)
	p.take(t, "several would go, and then itself", c, great, api.ErrFull)
}

// TestP18_1EvictBehind: with the cheapest one go all behind it.
func TestP18_1EvictBehind(t *testing.T) {
	c, at := rich(t)
	p := newPair(61 * 4)
	x := spending(open(1000000-70), at[0])
	p.take(t, "cheap", c, x, api.OK)
	p.take(t, "another one", c, spending(open(1000000-80), at[1]), api.OK)
	y := spending(open(900000), made(x, 0))
	p.take(t, "behind the cheap one", c, y, api.OK)
	p.take(t, "the last one that has room", c, spending(open(1000000-90), at[2]), api.OK)
	p.take(t, "behind the cheapest one", c, spending(open(100), made(y, 0)), api.ErrFull)
	p.take(t, "beside it", c, spending(open(1000000-71), at[3]), api.OK)
	if len(p.List()) != 3 {
		t.Errorf("%d wait", len(p.List()))
	}
}

// TestP18_1Full: if it finds no room, what it would have replaced still waits.
func TestP18_1Full(t *testing.T) {
	c, at := rich(t)
	p := newPair(61 * 2)
	p.take(t, "one", c, spending(open(1000000-70), at[0]), api.OK)
	p.take(t, "another one", c, spending(open(1000000-50000), at[1]), api.OK)
	great := spending(open(1, 1, 1, 1, 1), at[0])
	great.Out[0].Value = 1000000 - 10000
	p.take(t, "a great rival", c, great, api.ErrFull)
	p.take(t, "a rival that has room", c, spending(open(1000000-1000), at[0]), api.OK)
	for _, most := range []int{-5, 0, 60} {
		p = newPair(most)
		p.take(t, "no room at all", c, spending(open(1), at[0]), api.ErrFull)
	}
}

func TestP18_3Refresh(t *testing.T) {
	c, at := rich(t)
	p := newPair(100000)
	list := family(at)
	for _, x := range list {
		p.take(t, "a family", c, x, api.OK)
	}
	side := c.Clone()
	p.refresh(t, "nothing happened", c)
	b := follow(t, c, c.Tip(), 100, open(1), list[0], list[2])
	p.refresh(t, "two are confirmed", c)
	if len(p.List()) != 5 {
		t.Errorf("%d wait", len(p.List()))
	}
	p.refresh(t, "they return", side, b.Txs[1:]...)
	if got := p.List(); len(got) != 7 || got[0].Id != tx.Id(list[0]) || got[1].Id != tx.Id(list[2]) || got[2].Id != tx.Id(list[1]) {
		t.Errorf("%d wait, or not in this order", len(got))
	}
	follow(t, side, side.Tip(), 101, open(1), spending(open(7), at[0]))
	p.refresh(t, "the first one's coin is spent", side)
	if len(p.List()) != 1 {
		t.Errorf("%d wait", len(p.List()))
	}
	p.refresh(t, "no coins", chain.New(), list...)
	if len(p.List()) != 0 {
		t.Errorf("%d wait", len(p.List()))
	}
}

// TestP18_3More: those that are passed come first, so that a rival that waited must replace them.
func TestP18_3More(t *testing.T) {
	c, at := rich(t)
	cheap, dear := spending(open(1000000-100), at[0]), spending(open(1000000-1000), at[0])
	p := newPair(100000)
	p.take(t, "cheap", c, cheap, api.OK)
	p.refresh(t, "a dear one comes", c, dear, dear, spending(open(1), at[0], at[0]))
	if got := p.List(); len(got) != 1 || got[0].Id != tx.Id(dear) {
		t.Errorf("%d wait", len(got))
	}
	p.refresh(t, "a cheap one comes", c, cheap)
	if got := p.List(); len(got) != 1 || got[0].Id != tx.Id(dear) {
		t.Errorf("%d wait", len(got))
	}
	p = newPair(61)
	p.take(t, "cheap", c, cheap, api.OK)
	p.refresh(t, "no room for both", c, spending(open(1000000-101), at[1]))
	if got := p.List(); len(got) != 1 || got[0].Id == tx.Id(cheap) {
		t.Errorf("%d wait", len(got))
	}
}

// randomTx returns a transaction that spends coins and outputs of waiting ones, often the same as another one.
func randomTx(r *rand.Rand, p *pair, at []api.OutPoint) api.Tx {
	x := spending(nil)
	has := int64(0)
	for range 1 + r.Intn(2) {
		if n := len(p.plain.list); n > 0 && r.Intn(2) == 0 {
			e := p.plain.list[r.Intn(n)]
			i := r.Intn(len(e.Tx.Out))
			x.In = append(x.In, api.TxIn{Prev: made(e.Tx, uint32(i)), Seq: math.MaxUint32})
			has += e.Tx.Out[i].Value
			continue
		}
		x.In = append(x.In, api.TxIn{Prev: at[r.Intn(25)], Seq: math.MaxUint32})
		has += 1000000
	}
	x.Out = open(make([]int64, 1+r.Intn(4))...)
	fee := int64(tx.Virtual(x))*int64(10+r.Intn(30))/10 - int64(r.Intn(20)/19*50)
	for i := range x.Out {
		x.Out[i].Value = max((has-fee)/int64(len(x.Out)), 0)
	}
	return x
}

// TestP18_2Random holds the pool against the plain one, whatever comes, while the chain goes on and back.
func TestP18_2Random(t *testing.T) {
	r := rand.New(rand.NewSource(18))
	errs := map[api.Errno]int{}
	start, at := rich(t)
	for round := range 60 {
		c := start.Clone()
		most := 300 + r.Intn(3000)
		p := newPair(most)
		for step := range 60 {
			x := randomTx(r, p, at)
			trial := &plainPool{most, p.plain.list}
			want := trial.add(c, x)
			errs[want]++
			p.take(t, "a random one", c, x, want)
			expectSound(t, p.Pool, c, most)
			if step%20 == 19 {
				c = nextChain(t, r, start, c, p, round*60+step)
			}
		}
	}
	for _, err := range []api.Errno{api.OK, api.ErrClash, api.ErrSpent, api.ErrFee, api.ErrFull} {
		if errs[err] < 20 {
			t.Errorf("the error %d only %d times: %v", err, errs[err], errs)
		}
	}
}

// nextChain returns a chain that confirmed a part of what waits, or that went back to the start, and refreshes the pool for it.
func nextChain(t *testing.T, r *rand.Rand, start, c *chain.Chain, p *pair, mark int) *chain.Chain {
	t.Helper()
	if r.Intn(3) == 0 {
		var more []api.Tx
		for h := start.Height() + 1; h <= c.Height(); h++ {
			b, _ := c.At(h)
			more = append(more, b.Txs[1:]...)
		}
		c = start.Clone()
		p.refresh(t, "a block is disconnected", c, more...)
		return c
	}
	var list []api.Tx
	for _, e := range p.List()[:r.Intn(len(p.List())+1)] {
		list = append(list, e.Tx)
	}
	follow(t, c, c.Tip(), 1000+mark, open(1), list...)
	p.refresh(t, "a block is connected", c)
	return c
}
