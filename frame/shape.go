package frame

import "cablegram/api"

// markSize is how many bytes tell what the others are of.
const markSize = 1

// shape is what bytes of one thing are told from those of another one by: their
// first byte, and how many keys there are.
type shape struct {
	mark uint64
	keys int
}

// wrong tells what is wrong with what was read: how that ended, or that it has
// another shape than what was to be read.
func wrong(end api.Errno, got, want shape) api.Errno {
	switch {
	case end != api.OK:
		return end
	case got.mark != want.mark:
		fallthrough // bytes of another thing are told as those with too few keys are
	case got.keys != want.keys:
		return api.ErrShape
	}
	return api.OK
}
