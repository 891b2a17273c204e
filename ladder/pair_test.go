package ladder_test

import (
	"slices"
	"sync"
	"testing"

	"cablegram/api"
	"cablegram/ladder"
)

// G3

func TestPair(t *testing.T) {
	points := slices.Concat(few(), small(t), notWhole()[:4], []api.Key{{9}, high(api.Key{9})})
	for _, secret := range secrets() {
		p := ladder.NewPair(secret)
		if p.Secret() != secret {
			t.Errorf("%x: Secret %x", secret, p.Secret())
		}
		if p.Public() != ladder.Public(secret) || p.Public() != ladder.Public(secret) {
			t.Errorf("%x: Public %x", secret, p.Public())
		}
		if p.Secret() != secret {
			t.Errorf("%x: Secret, behind Public, %x", secret, p.Secret())
		}
	}
	for _, secret := range few() {
		p := ladder.NewPair(secret)
		for range 2 {
			for _, point := range points {
				want, wantError := ladder.Mult(secret, point)
				if k, e := p.Shared(point); k != want || e != wantError {
					t.Errorf("%x, with %x: %x %v, want %x %v", secret, point, k, e, want, wantError)
				}
			}
			p.Public()
		}
	}
}

func TestPairRefusesPoints(t *testing.T) {
	p := ladder.NewPair(noise(11, 1)[0])
	for _, point := range slices.Concat(small(t), notWhole(), []api.Key{high(api.Key{9})}) {
		if k, e := p.Shared(point); k != (api.Key{}) || e != api.ErrPoint {
			t.Errorf("%x: %x %v", point, k, e)
		}
	}
}

// TestPairsShareOne: G4, of pairs.
func TestPairsShareOne(t *testing.T) {
	l := few()
	for i, a := range l {
		for _, b := range l[i:] {
			p, q := ladder.NewPair(a), ladder.NewPair(b)
			one, e := p.Shared(q.Public())
			other, f := q.Shared(p.Public())
			if one != other || e != api.OK || f != api.OK {
				t.Errorf("%x, %x: %x %v, %x %v", a, b, one, e, other, f)
			}
		}
	}
}

// TestPairsAreTheirOwn: what one was asked is nothing to another one of the same secret, or of another.
func TestPairsAreTheirOwn(t *testing.T) {
	l := noise(12, 2)
	p, same, other := ladder.NewPair(l[0]), ladder.NewPair(l[0]), ladder.NewPair(l[1])
	if p.Public() != same.Public() || p.Public() == other.Public() || other.Public() != ladder.Public(l[1]) {
		t.Errorf("%x, %x, %x", p.Public(), same.Public(), other.Public())
	}
}

func TestPairUsedBySeveral(t *testing.T) {
	secret, point := noise(13, 1)[0], api.Key{9}
	public := ladder.Public(secret)
	shared, _ := ladder.Mult(secret, point)
	p := ladder.NewPair(secret)
	var all sync.WaitGroup
	for range 16 {
		all.Go(func() {
			for range 5 {
				if k := p.Public(); k != public {
					t.Errorf("Public: %x, want %x", k, public)
				}
				if k, e := p.Shared(point); k != shared || e != api.OK {
					t.Errorf("Shared: %x %v, want %x", k, e, shared)
				}
				if k := p.Secret(); k != secret {
					t.Errorf("Secret: %x", k)
				}
			}
		})
	}
	all.Wait()
}

// TestPairThatWasNotMade: R1: a nil one has nothing, and shares with nobody; the zero one is that of the secret 0.
func TestPairThatWasNotMade(t *testing.T) {
	var none *ladder.Pair
	if none.Secret() != (api.Key{}) || none.Public() != (api.Key{}) {
		t.Errorf("nil: %x, %x", none.Secret(), none.Public())
	}
	for _, point := range []api.Key{{}, {9}, ladder.Public(api.Key{})} {
		if k, e := none.Shared(point); k != (api.Key{}) || e != api.ErrPoint {
			t.Errorf("nil, with %x: %x %v", point, k, e)
		}
	}
	var zero ladder.Pair
	made := ladder.NewPair(api.Key{})
	k, e := zero.Shared(api.Key{9})
	want, f := made.Shared(api.Key{9})
	if zero.Secret() != made.Secret() || zero.Public() != made.Public() || k != want || e != f {
		t.Errorf("zero: %x, %x, %x %v", zero.Secret(), zero.Public(), k, e)
	}
}
