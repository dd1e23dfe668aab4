package hash_test

import (
	"testing"

	"strongbox/hash"
)

func TestP2_3ZeroSum(t *testing.T) {
	var s hash.Sum
	if s.Hash() != hash.Sum256(nil) || s.Twice() != hash.Double(nil) {
		t.Errorf("the zero Sum isn't empty")
	}
	s.Add()
	s.Add([]byte{}...)
	if s.Hash() != hash.Sum256(nil) || s.Twice() != hash.Double(nil) {
		t.Errorf("something came with nothing")
	}
}

func TestP2_3CutAnywhere(t *testing.T) {
	for _, n := range []int{1, 55, 56, 63, 64, 65, 128, 150} {
		b := message(n)
		want, twice := hash.Sum256(b), hash.Double(b)
		for i := range n + 1 {
			for j := i; j <= n; j++ {
				var s hash.Sum
				s.Add(b[:i]...)
				s.Add(b[i:j]...)
				s.Add(b[j:]...)
				if s.Hash() != want || s.Twice() != twice {
					t.Fatalf("%d bytes, cut at %d and %d", n, i, j)
				}
			}
		}
	}
}

func TestP2_3AnswersOnTheWay(t *testing.T) {
	b := message(300)
	var s hash.Sum
	for i := range b {
		if s.Hash() != hash.Sum256(b[:i]) || s.Hash() != hash.Sum256(b[:i]) {
			t.Fatalf("Hash behind %d bytes", i)
		}
		if s.Twice() != hash.Double(b[:i]) || s.Twice() != hash.Double(b[:i]) {
			t.Fatalf("Twice behind %d bytes", i)
		}
		s.Add(b[i])
	}
	if s.Hash() != hash.Sum256(b) {
		t.Errorf("at the end")
	}
}

func TestP2_3GreatPieces(t *testing.T) {
	b := message(100000)
	want := hash.Sum256(b)
	for _, size := range []int{1, 63, 64, 65, 1000, 99999} {
		var s hash.Sum
		for from := 0; from < len(b); from += size {
			s.Add(b[from:min(from+size, len(b))]...)
			s.Hash()
		}
		if s.Hash() != want {
			t.Errorf("pieces of %d bytes", size)
		}
	}
}

func TestP2_3PiecesAreNotKept(t *testing.T) {
	piece := message(100)
	var s hash.Sum
	s.Add(piece...)
	clear(piece)
	if s.Hash() != hash.Sum256(message(100)) {
		t.Errorf("a piece was kept")
	}
}

func TestP2_3TwoSums(t *testing.T) {
	var a, b hash.Sum
	for i := range 200 {
		a.Add(byte(i))
		b.Add(byte(i), byte(i))
	}
	var once, doubled []byte
	for i := range 200 {
		once = append(once, byte(i))
		doubled = append(doubled, byte(i), byte(i))
	}
	if a.Hash() != hash.Sum256(once) || b.Hash() != hash.Sum256(doubled) {
		t.Errorf("two Sums are one")
	}
}
