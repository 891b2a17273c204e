package ots

import (
	"sync"

	"cablegram/api"
	"cablegram/mac"
	"cablegram/sha"
)

// chainLabel is what the chains' first keys are derived for.
const chainLabel = "chain"

// Signer signs one digest: who sees two signed by it can sign others. Its
// public key is made when it is first asked: all chains are gone along to
// their ends for it. Several may use one at once. A nil one has nothing: its
// public key is 0, and its signature has no keys.
type Signer struct {
	meter     *sha.Meter
	seed, tag api.Key
	once      sync.Once
	public    api.Key
}

// New is a seed's.
func New(m *sha.Meter, seed, tag api.Key) *Signer {
	return &Signer{meter: m, seed: seed, tag: tag}
}

// Public is its public key.
func (s *Signer) Public() api.Key {
	if s == nil {
		return api.Key{}
	}
	s.once.Do(func() {
		ends := make([]api.Key, api.Chains)
		for i := range ends {
			ends[i] = s.reached(i, top)
		}
		s.public = joined(s.meter, s.tag, ends)
	})
	return s.public
}

// Sign signs a digest.
func (s *Signer) Sign(digest api.Key) []api.Key {
	if s == nil {
		return nil
	}
	out := make([]api.Key, api.Chains)
	for i, digit := range Digits(digest) {
		out[i] = s.reached(i, digit)
	}
	return out
}

// reached is what a chain is at a step.
func (s *Signer) reached(chain, step int) api.Key {
	first := mac.Derive(s.meter, s.seed, chainLabel, number(chain))
	return Along(s.meter, s.tag, chain, 0, step, first)
}
