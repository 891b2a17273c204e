package mac

import (
	"testing"

	"cablegram/api"
	"cablegram/sha"
)

// TestExpandedIsBrokenOff: nothing is made behind the last one that was asked for.
func TestExpandedIsBrokenOff(t *testing.T) {
	for stop := 1; stop <= 5; stop++ {
		m := sha.New(false)
		told := 0
		for range expanded(m, api.Key{1}, []byte("info"), 5) {
			told++
			if told == stop {
				break
			}
		}
		if told != stop || m.Count() != 2*stop {
			t.Errorf("broken off at %d: %d are told, of %d digests", stop, told, m.Count())
		}
	}
}

func TestExpandedTellsSoMany(t *testing.T) {
	for _, count := range []int{0, 1, 2, 255} {
		m := sha.New(false)
		told := 0
		for range expanded(m, api.Key{1}, nil, count) {
			told++
		}
		if told != count || m.Count() != 2*count {
			t.Errorf("%d: %d are told, of %d digests", count, told, m.Count())
		}
	}
}
