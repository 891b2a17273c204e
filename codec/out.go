package codec

import (
	"slices"

	"cablegram/api"
	"cablegram/octets"
)

// Out writes. A new one has nothing, and no error. A nil one can keep neither:
// nothing that is written to it may pass for done, and Done tells ErrShape.
type Out struct {
	written []byte
	err     api.Errno
}

// Number writes a number; ErrShape, if size is no number's Kind, or the number
// does not fit.
func (o *Out) Number(n uint64, size int) {
	if !isNumber(size) || n>>(byteBits*uint(size)) != 0 {
		o.fail(api.ErrShape)
		return
	}
	o.put(octets.High(n, size))
}

// Bytes writes bytes, behind how many there are; ErrLong, if there are too many.
func (o *Out) Bytes(b []byte) {
	if len(b) > api.MaxList {
		o.fail(api.ErrLong)
		return
	}
	o.put(octets.High(uint64(len(b)), countSize))
	o.put(b)
}

// Keys writes keys, behind how many there are; ErrLong, if there are too many.
func (o *Out) Keys(l ...api.Key) {
	if len(l) > maxKeys {
		o.fail(api.ErrLong)
		return
	}
	o.put(octets.High(uint64(len(l)), countSize))
	for _, k := range l {
		o.put(k[:])
	}
}

// Done is what was written, or the first error.
func (o *Out) Done() ([]byte, api.Errno) {
	if o == nil {
		return nil, api.ErrShape
	}
	return slices.Clone(o.written), o.err
}

// put writes, unless there was an error.
func (o *Out) put(b []byte) {
	if o != nil && o.err == api.OK {
		o.written = append(o.written, b...)
	}
}

// fail keeps the first error, and lets go of what was written.
func (o *Out) fail(e api.Errno) {
	if o != nil && o.err == api.OK {
		o.written, o.err = nil, e
	}
}
