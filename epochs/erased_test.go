package epochs

import (
	"testing"

	"cablegram/api"
)

// TestErasedSecretsAreOverwritten: where they stood, and no other one is.
func TestErasedSecretsAreOverwritten(t *testing.T) {
	for _, from := range []uint32{0, 7, 1<<32 - 6, 1<<32 - 3} {
		for more := range uint32(8) {
			x, stood := &Table{}, map[uint32]*api.Key{}
			for i := range uint32(api.MaxEpochs) {
				if e := x.Born(from+i, secretOf(i)); e != api.OK {
					t.Fatal(from, i, e)
				}
				stood[from+i] = x.secrets[from+i]
			}
			below := from + more
			x.Erase(below)
			for i := range uint32(api.MaxEpochs) {
				id, want := from+i, secretOf(i)
				gone := id < below && i != api.MaxEpochs-1
				if gone {
					want = api.Key{}
				}
				if *stood[id] != want {
					t.Errorf("Erase(%d): where %d stood: %x, want %x", below, id, *stood[id], want)
				}
				if _, there := x.secrets[id]; there == gone {
					t.Errorf("Erase(%d): %d is there: %v", below, id, there)
				}
			}
		}
	}
}

func secretOf(i uint32) api.Key {
	var k api.Key
	for at := range k {
		k[at] = byte(1+i) << (at % 5)
	}
	return k
}
