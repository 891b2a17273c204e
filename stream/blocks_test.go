package stream

import (
	"math"
	"testing"

	"cablegram/api"
)

// TestBlocksTellsSoMany, in their order; behind the highest counter comes 0.
func TestBlocksTellsSoMany(t *testing.T) {
	key, nonce := api.Key{1, 2, 3}, [12]byte{4, 5, 6}
	for _, counter := range []uint32{0, 1, math.MaxUint32 - 2, math.MaxUint32} {
		for _, count := range []int{0, 1, 2, 5, 63} {
			told := 0
			for block := range blocks(key, counter, nonce, count) {
				if block != Block(key, counter+uint32(told), nonce) {
					t.Errorf("counter %d, number %d of %d: %x", counter, told, count, block)
				}
				told++
			}
			if told != count {
				t.Errorf("counter %d: %d are told, want %d", counter, told, count)
			}
		}
	}
}

// TestBlocksIsBrokenOff: one that went on would panic.
func TestBlocksIsBrokenOff(t *testing.T) {
	for stop := 1; stop <= 5; stop++ {
		told := 0
		for range blocks(api.Key{1}, 0, [12]byte{}, 5) {
			told++
			if told == stop {
				break
			}
		}
		if told != stop {
			t.Errorf("broken off at %d: %d are told", stop, told)
		}
	}
}
