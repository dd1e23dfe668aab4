package check_test

import (
	"math/rand"
	"testing"

	"strongbox/api"
	"strongbox/check"
)

// pool returns scripts and items of all kinds, which refer to each other.
func pool() [][]byte {
	list := [][]byte{nil, {}, {1}, {0x51}, {0x00}, {0x61}, {0x6a}, {0x01}, {0x51, 0x51}, hexed("6a 01 02"), hexed("93 55 87"), hexed("82 77"), fill(20, 1), fill(32, 1), fill(33, 1), fill(520, 1), fill(521, 1), keyOf(1), keyOf(2)}
	for _, s := range [][]byte{{0x51}, {}, hexed("75 51"), toKey(1), multi(1, 1, 2), program(1, fill(2, 1)), program(0, fill(2, 1)), toWitnessKey(1)} {
		list = append(list, s, toScript(s), toWitnessScript(s), toScript(toWitnessScript(s)), toWitnessScript(toScript(s)), toScript(toScript(s)))
	}
	return list
}

// attempt is a Script, a Witness, and the output's script that they are to satisfy.
type attempt struct {
	s, out  []byte
	witness [][]byte
}

// randomAttempt returns one that has what hashes refer to, or only by chance.
func randomAttempt(r *rand.Rand, all [][]byte) attempt {
	one := func() []byte { return all[r.Intn(len(all))] }
	some := func(n int) [][]byte {
		var list [][]byte
		for range r.Intn(n) {
			list = append(list, one())
		}
		return list
	}
	s := one()
	items := append(some(3), s)
	switch r.Intn(5) {
	case 0:
		return attempt{pushes(items...), toScript(s), nil}
	case 1:
		return attempt{nil, toWitnessScript(s), items}
	case 2:
		return attempt{pushes(toWitnessScript(s)), toScript(toWitnessScript(s)), items}
	case 3:
		return attempt{one(), s, some(4)}
	}
	return attempt{pushes(some(4)...), s, some(3)}
}

// TestP14_1Model: whatever is put together, Input does what the model does.
func TestP14_1Model(t *testing.T) {
	r := rand.New(rand.NewSource(14))
	all := pool()
	may := 0
	for range 40000 {
		a := randomAttempt(r, all)
		x := with(payment(), 1, a.s, a.witness...)
		out := api.TxOut{Value: int64(r.Intn(3)), Script: a.out}
		got, want := check.Input(x, 1, out), plainInput(x, 1, out)
		if (got == api.OK) != want || got != api.OK && got != api.ErrScript {
			t.Fatalf("Input of %.80x with %.80x on %x: error %d; the model: %v", a.s, a.witness, a.out, got, want)
		}
		if want {
			may++
		}
	}
	if may < 1000 {
		t.Errorf("only %d may spend", may)
	}
}

// TestP14_2Model: whatever is hidden in what, what is made may spend, and else the input comes back.
func TestP14_2Model(t *testing.T) {
	all := pool()
	made := 0
	for i, s := range all {
		x, out := used(), api.TxOut{Value: 5, Script: s}
		in, ok := check.Spend(x, i%3, out, all, ring{1, 2})
		if !ok {
			if !sameIn(in, x.In[i%3]) {
				t.Errorf("%x: the input was changed", s)
			}
			continue
		}
		made++
		expectInput(t, true, with(x, i%3, in.Script, in.Witness...), i%3, out)
	}
	// KeyHash and Multi, each of them in four ways, and WitnessKey in two.
	if made != 10 {
		t.Errorf("%d inputs were made; want 10", made)
	}
}
