package trail

import "cablegram/api"

// maxPast is how many trails a Past has at most.
const maxPast = 64

// Past has some trails, each with the number behind that of the one ahead of
// it. It is a value: whoever copies it shares its trails with nobody. A nil one
// has no trails, and room for none.
type Past struct {
	trails [maxPast]Trail // behind count they are zero: nothing is left of those that were forgotten
	count  int
}

// Add adds one; ErrFull, if there is no room, ErrArg, if its number is not the
// one behind the last one's (which is 0 behind the greatest one, as Next's).
func (p *Past) Add(t Trail) api.Errno {
	switch {
	case p == nil || p.count == maxPast:
		return api.ErrFull
	case p.count > 0 && t.N != p.trails[p.count-1].N+1:
		return api.ErrArg
	}
	p.trails[p.count] = t
	p.count++
	return api.OK
}

// Find is one's head; ErrNone, if there is none of that number.
func (p *Past) Find(n uint32) (api.Key, api.Errno) {
	at := n - p.First()
	if uint64(at) >= uint64(p.Len()) {
		return api.Key{}, api.ErrNone
	}
	return p.trails[at].Head, api.OK
}

// Forget lets the first ones go, as long as their numbers are below n. The last
// one stays: what is added is to go on from it.
func (p *Past) Forget(n uint32) {
	gone := 0
	for gone < p.Len()-1 && p.trails[gone].N < n {
		gone++
	}
	if gone > 0 {
		p.drop(gone)
	}
}

// drop lets so many go, and leaves nothing of them.
func (p *Past) drop(gone int) {
	left := copy(p.trails[:], p.trails[gone:p.count])
	clear(p.trails[left:p.count])
	p.count = left
}

// Len is how many there are.
func (p *Past) Len() int {
	if p == nil {
		return 0
	}
	return p.count
}

// First is the first one's number; 0 of none.
func (p *Past) First() uint32 {
	if p == nil {
		return 0
	}
	return p.trails[0].N
}

// Trails are all, in order: a list of their own.
func (p *Past) Trails() []Trail {
	if p == nil {
		return nil
	}
	return append([]Trail(nil), p.trails[:p.count]...)
}
