package ring

import (
	"slices"
	"testing"

	"strongbox/api"
	"strongbox/desc"
)

// TestP21_1Nothing: an index for which a descriptor has no script counts. As no descriptor is known that has one at 0 and none at another index, what was derived is taken away here.
func TestP21_1Nothing(t *testing.T) {
	r := New(3)
	r.Add("wpkh(xpub661MyMwAqRbcFtXgS5sYJABqqG9YLmC4Q1Rdap9gSE8NqtwybGhePY2gZ29ESFjqJoCu1Rupje8YtGqsefD265TMg7usUDFdp6W1EGMcet8/*)")
	all := r.Scripts()
	delete(r.first, string(all[1]))
	r.descs[0].derived[1] = desc.Derived{}
	if got := r.Scripts(); len(got) != 2 || !slices.Equal(got[1], all[2]) || r.End(0) != 3 {
		t.Errorf("%d scripts, End %d", len(got), r.End(0))
	}
	r.Take(0)
	if p, s, err := r.Take(0); p != (Place{}) || s != nil || err != api.ErrNone || r.Next(0) != 2 || r.End(0) != 5 {
		t.Errorf("Take = %v, %x, error %d; Next %d, End %d", p, s, err, r.Next(0), r.End(0))
	}
	if p, s, err := r.Take(0); p.Index != 2 || !slices.Equal(s, all[2]) || err != api.OK {
		t.Errorf("Take = %v, %x, error %d", p, s, err)
	}
	if _, ok := r.Find(nil); ok || r.Saw(nil) || r.Saw(all[1]) {
		t.Errorf("nothing is found")
	}
}
