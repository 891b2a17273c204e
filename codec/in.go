package codec

import (
	"slices"

	"cablegram/api"
	"cablegram/octets"
)

// In reads. A nil one has nothing, and can keep no error: nothing that is read
// of it may pass for read, and End tells ErrShort.
type In struct {
	left []byte
	err  api.Errno
}

// Read is an In of a copy of bytes: whoever changes them afterwards changes
// nothing that is read.
func Read(b []byte) *In { return &In{left: slices.Clone(b)} }

// Number reads a number; ErrShape, if size is no number's Kind.
func (i *In) Number(size int) uint64 {
	if !isNumber(size) {
		i.fail(api.ErrShape)
		return 0
	}
	return octets.OfHigh(i.take(size))
}

// Bytes reads bytes; ErrLong, if there are more than most, or than an Item has.
func (i *In) Bytes(most int) []byte {
	b := i.take(i.count(min(most, api.MaxList)))
	return append([]byte(nil), b...) // no clone: an empty one would hold on to all that is read
}

// Key reads a key, alone.
func (i *In) Key() api.Key {
	var k api.Key
	copy(k[:], i.take(len(k)))
	return k
}

// Keys reads keys; ErrLong, if there are more than most, or than an Item has.
// Their bytes are taken as one: with too few of them there is no key.
func (i *In) Keys(most int) []api.Key {
	const size = len(api.Key{})
	var out []api.Key
	for b := range slices.Chunk(i.take(size*i.count(min(most, maxKeys))), size) {
		out = append(out, api.Key(b))
	}
	return out
}

// End tells the first error, or whether there are bytes left. That is no error
// that stays: they may still be read.
func (i *In) End() api.Errno {
	switch {
	case i == nil:
		return api.ErrShort
	case i.err == api.OK && len(i.left) > 0:
		return api.ErrTail
	}
	return i.err
}

// count reads how many there are; ErrLong, if those are more than most.
func (i *In) count(most int) int {
	n := int(i.Number(countSize))
	if n > most {
		i.fail(api.ErrLong)
		return 0
	}
	return n
}

// take is the next bytes; ErrShort, if there are not so many. Behind an error
// there are none.
func (i *In) take(size int) []byte {
	if i == nil {
		return nil
	}
	if len(i.left) < size {
		i.fail(api.ErrShort)
	}
	if i.err != api.OK {
		return nil
	}
	b := i.left[:size]
	i.left = i.left[size:]
	return b
}

// fail keeps the first error, and lets go of what is left.
func (i *In) fail(e api.Errno) {
	if i != nil && i.err == api.OK {
		i.left, i.err = nil, e
	}
}
