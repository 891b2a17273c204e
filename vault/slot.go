package vault

import (
	"iter"
	"slices"

	"cablegram/api"
	"cablegram/codec"
	"cablegram/device"
	"cablegram/sha"
)

const (
	numberSize = 8
	// toldSize is how many bytes of a head are digested: its two numbers.
	toldSize = 2 * numberSize
	// headSize is how many bytes a head has: behind its numbers one key, with the
	// two bytes by which an Out tells that it is one.
	headSize = toldSize + 2 + len(api.Key{})
)

// slot is a head, and n sectors behind it.
type slot struct {
	d     *device.Device
	at, n int
}

// state is what stands in a slot. No state has the number 0: that stands for
// none.
type state struct {
	seq uint64
	b   []byte
}

// slots are both of a vault; ErrArg or ErrSector, if there is none.
func slots(d *device.Device, at, n int) ([2]slot, api.Errno) {
	if Room(n) == 0 {
		return [2]slot{}, api.ErrArg
	}
	size := n + 1
	if at < 0 || at > d.Len()-2*size {
		return [2]slot{}, api.ErrSector
	}
	return [2]slot{{d: d, at: at, n: n}, {d: d, at: at + size, n: n}}, api.OK
}

// newest is the state that counts, and in which slot it stands. Without one
// that is the second slot, since the first state is written into the other one.
func newest(m *sha.Meter, both [2]slot) (which int, x state) {
	which = 1
	for i, s := range both {
		if y := s.load(m); y.seq > x.seq {
			which, x = i, y
		}
	}
	return which, x
}

// sectors tells a slot's sectors: the how many-th each is, the head being 0,
// and which one of the device.
func (s slot) sectors() iter.Seq2[int, int] {
	return func(yield func(k, i int) bool) {
		for k := range s.n + 1 {
			if !yield(k, s.at+k) {
				return
			}
		}
	}
}

// read is all that stands in a slot. The device has its sectors: slots asked.
func (s slot) read() []byte {
	var out []byte
	for _, i := range s.sectors() {
		b, _ := s.d.Read(i)
		out = append(out, b...)
	}
	return out
}

// load is the state of a slot that counts; none of another one.
func (s slot) load(m *sha.Meter) state {
	all := s.read()
	head, rest := all[:api.Sector], all[api.Sector:]
	in := codec.Read(head[:headSize])
	seq, size, sum := in.Number(numberSize), in.Number(numberSize), in.Keys(1)
	// What an In of a head's length reads without an error has its one key.
	if in.End() != api.OK || !isZero(head[headSize:]) || size > uint64(len(rest)) {
		return state{}
	}
	b := slices.Clone(rest[:size])
	if m.Sum(head[:toldSize], b) != sum[0] {
		return state{}
	}
	return state{seq: seq, b: b}
}

// fill writes a state's bytes, into as many sectors as they need.
func (s slot) fill(x state) api.Errno {
	left := x.b
	for k, i := range s.sectors() {
		if k == 0 {
			continue // the head waits until these are sure
		}
		if len(left) == 0 {
			break
		}
		size := min(len(left), api.Sector)
		if e := s.d.Write(i, left[:size]); e != api.OK {
			return e
		}
		left = left[size:]
	}
	return api.OK
}

// mark writes a state's head, by which the slot counts.
func (s slot) mark(m *sha.Meter, x state) api.Errno {
	var out codec.Out
	out.Number(x.seq, numberSize)
	out.Number(uint64(len(x.b)), numberSize)
	told, e := out.Done()
	if e != api.OK {
		return e
	}
	out.Keys(m.Sum(told, x.b))
	head, e := out.Done()
	if e != api.OK {
		return e
	}
	return s.d.Write(s.at, head)
}

// wipe overwrites all of a slot. The head goes first: what is left of the
// state, should the device go down amid it, is none.
func (s slot) wipe() api.Errno {
	for _, i := range s.sectors() {
		if e := s.d.Write(i, nil); e != api.OK {
			return e
		}
	}
	return s.d.Sync()
}

func (s slot) isClean() bool { return isZero(s.read()) }

func isZero(b []byte) bool {
	return !slices.ContainsFunc(b, func(x byte) bool { return x != 0 })
}
