package ladder

import (
	"testing"

	"cablegram/api"
)

// TestPublicIsMadeWhenFirstAsked: not ahead of that, by nothing else, and once alone.
func TestPublicIsMadeWhenFirstAsked(t *testing.T) {
	p := NewPair(api.Key{9})
	p.Secret()
	p.Shared(api.Key{9})
	if p.public != (api.Key{}) {
		t.Errorf("made ahead of being asked: %x", p.public)
	}
	want := Public(api.Key{9})
	if k := p.Public(); k != want || p.public != want {
		t.Errorf("%x, kept %x, want %x", k, p.public, want)
	}
	p.secret = api.Key{64} // one that is clamped to another secret
	if Public(p.secret) == want {
		t.Fatal("one public key: it shows nothing")
	}
	if k := p.Public(); k != want {
		t.Errorf("made once more: %x", k)
	}
}
