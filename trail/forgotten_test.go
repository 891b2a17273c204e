package trail

import (
	"testing"

	"cablegram/api"
)

// TestNothingIsLeftOfTheForgotten: not in the places behind the last one either.
func TestNothingIsLeftOfTheForgotten(t *testing.T) {
	var p Past
	for n := range uint32(maxPast) {
		if e := p.Add(Trail{Head: api.Key{1, byte(n)}, N: n}); e != api.OK {
			t.Fatal(n, e)
		}
	}
	for _, n := range []uint32{1, 3, 40, 41, maxPast} {
		p.Forget(n)
		for i, x := range p.trails {
			if gone := x != (Trail{}) && x.N < p.First(); gone || i >= p.count && x != (Trail{}) {
				t.Errorf("behind Forget(%d), at %d: %v", n, i, x)
			}
		}
	}
	if p.count != 1 || p.trails[0].N != maxPast-1 {
		t.Error(p.count, p.trails[0])
	}
}
