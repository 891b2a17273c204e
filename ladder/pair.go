package ladder

import (
	"sync"

	"cablegram/api"
)

// Pair is a secret, and its public key. That is made when it is first asked:
// many a pair only shares. Several may use one at once. A nil one has nothing:
// its keys are 0, and it shares with nobody.
type Pair struct {
	secret api.Key
	once   sync.Once
	public api.Key
}

// NewPair is a secret's.
func NewPair(secret api.Key) *Pair { return &Pair{secret: secret} }

// Secret is its secret, as it was handed in.
func (p *Pair) Secret() api.Key {
	if p == nil {
		return api.Key{}
	}
	return p.secret
}

// Public is its public key.
func (p *Pair) Public() api.Key {
	if p == nil {
		return api.Key{}
	}
	p.once.Do(func() { p.public = Public(p.secret) })
	return p.public
}

// Shared is what it shares with a public key; ErrPoint, if that may not be.
func (p *Pair) Shared(point api.Key) (api.Key, api.Errno) {
	if p == nil {
		return api.Key{}, api.ErrPoint
	}
	return Mult(p.secret, point)
}
