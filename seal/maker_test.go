package seal

import (
	"sync"
	"testing"

	"cablegram/api"
	"cablegram/mac"
	"cablegram/sha"
)

// TestKeysAreMadeWhenFirstAsked: each by two digests, once, and neither by the other one's asking.
func TestKeysAreMadeWhenFirstAsked(t *testing.T) {
	key := api.Key{1, 2, 3}
	hide, tag := mac.Derive(nil, key, "hide"), mac.Derive(nil, key, "tag")
	m := sha.New(false)
	b := &maker{meter: m, key: key}
	if m.Count() != 0 {
		t.Error("made ahead of being asked:", m.Count())
	}
	for i, x := range []struct {
		ask   func() api.Key
		want  api.Key
		count int
	}{{b.forTag, tag, 2}, {b.forTag, tag, 2}, {b.forHide, hide, 4}, {b.forHide, hide, 4}, {b.forTag, tag, 4}} {
		if k := x.ask(); k != x.want || m.Count() != x.count {
			t.Errorf("%d: %x, want %x; %d digests, want %d", i, k, x.want, m.Count(), x.count)
		}
	}
}

func TestKeysAreMadeOnceWhoeverAsks(t *testing.T) {
	key := api.Key{4, 5, 6}
	hide, tag := mac.Derive(nil, key, "hide"), mac.Derive(nil, key, "tag")
	m := sha.New(false)
	b := &maker{meter: m, key: key}
	var all sync.WaitGroup
	for range 16 {
		all.Go(func() {
			if h, k := b.forHide(), b.forTag(); h != hide || k != tag {
				t.Errorf("%x, %x", h, k)
			}
		})
	}
	all.Wait()
	if m.Count() != 4 {
		t.Error("digests:", m.Count())
	}
}
