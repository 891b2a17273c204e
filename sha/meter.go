package sha

import (
	"slices"
	"sync"
	"sync/atomic"

	"cablegram/api"
	"cablegram/octets"
)

// Meter makes digests, and counts them. Several may use one at once; nil is
// one that counts nothing, and keeps nothing.
type Meter struct {
	keep   bool
	count  atomic.Int64
	lock   sync.Mutex // of inputs
	inputs [][]byte
}

// New is one that keeps what it digests, or not.
func New(keep bool) *Meter { return &Meter{keep: keep} }

// Sum is the digest of bytes, one list behind the other.
func (m *Meter) Sum(l ...[]byte) api.Key {
	// Joined once, so that what is kept is what was digested, whatever becomes
	// of the lists.
	input := octets.Join(l...)
	k := digest(input)
	m.note(input)
	return k
}

func (m *Meter) note(input []byte) {
	if m == nil {
		return
	}
	if m.keep {
		m.lock.Lock()
		defer m.lock.Unlock()
		m.inputs = append(m.inputs, input)
	}
	m.count.Add(1)
}

// Count is how many it made.
func (m *Meter) Count() int {
	if m == nil {
		return 0
	}
	return int(m.count.Load())
}

// Inputs are what they were of, in order; nothing, if they are not kept. They
// are copies: whoever changes them changes nothing that the Meter keeps.
func (m *Meter) Inputs() [][]byte {
	if m == nil {
		return nil
	}
	m.lock.Lock()
	defer m.lock.Unlock()
	var out [][]byte
	for _, input := range m.inputs {
		out = append(out, slices.Clone(input))
	}
	return out
}

// Alike are two inputs that are unlike and have one digest. Digests are not
// kept but made again, and not counted: what the Meter made are its Sums.
func (m *Meter) Alike() (a, b []byte, found bool) {
	return firstAlike(m.Inputs(), digest)
}

// firstAlike asks for the digest by a function, since of the true one no two
// such inputs are known. It is enough to look back at the first input of each
// digest: up to there all others of that digest are the same.
func firstAlike(inputs [][]byte, digest func([]byte) api.Key) (a, b []byte, found bool) {
	first := map[api.Key]int{}
	for i, input := range inputs {
		k := digest(input)
		at, seen := first[k]
		if !seen {
			first[k] = i
		} else if !octets.Same(inputs[at], input) {
			return inputs[at], input, true
		}
	}
	return nil, nil, false
}
