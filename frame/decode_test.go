package frame_test

import (
	"bytes"
	"encoding/binary"
	"math/rand"
	"slices"
	"testing"

	"cablegram/api"
	"cablegram/frame"
)

// reader takes J3's parts, one behind the other.
type reader struct {
	left []byte
	err  api.Errno
}

func (r *reader) take(n int) []byte {
	if r.err == api.OK && len(r.left) < n {
		r.err = api.ErrShort
	}
	if r.err != api.OK {
		return make([]byte, n)
	}
	b := r.left[:n]
	r.left = r.left[n:]
	return b
}

// list takes parts of so many bytes, behind how many there are.
func (r *reader) list(most, size int) []byte {
	n := int(binary.BigEndian.Uint16(r.take(2)))
	if r.err == api.OK && n > most {
		r.err = api.ErrLong
	}
	if r.err != api.OK {
		return nil
	}
	return r.take(n * size)
}

func (r *reader) keys(most int) []api.Key {
	var l []api.Key
	for b := range slices.Chunk(r.list(most, 32), 32) {
		l = append(l, api.Key(b))
	}
	return l
}

func (r *reader) end() api.Errno {
	if r.err == api.OK && len(r.left) > 0 {
		return api.ErrTail
	}
	return r.err
}

// plainDecode is J3 by the library.
func plainDecode(b []byte) (api.Frame, api.Errno) {
	if len(b) > 8000 {
		return api.Frame{}, api.ErrLong
	}
	r := &reader{left: b}
	mark := r.take(1)[0]
	f := api.Frame{Index: binary.BigEndian.Uint32(r.take(4)), Ack: binary.BigEndian.Uint32(r.take(4))}
	three := r.keys(3)
	f.Box = r.list(264, 1)
	f.Sign = r.keys(67)
	if e := r.end(); e != api.OK {
		return api.Frame{}, e
	}
	if mark != 1 || len(three) != 3 {
		return api.Frame{}, api.ErrShape
	}
	f.Eph, f.Epoch, f.Next = three[0], three[1], three[2]
	if e := plainCheck(f); e != api.OK {
		return api.Frame{}, e
	}
	return f, api.OK
}

// refused asks that the bytes are no frame, and that nothing is told beside the error.
func refused(t *testing.T, what any, b []byte, want api.Errno) {
	t.Helper()
	if f, e := frame.Decode(b); !isNothing(f) || e != want {
		t.Errorf("%v: %v %v, want %v", what, f, e, want)
	}
}

// parts are what a frame's bytes are joined of; what is wrong with them is written as it is.
type parts struct {
	mark       byte
	index, ack uint32
	three      int
	box, sign  int
}

var right = parts{mark: 1, index: 1, ack: 0, three: 3, box: 64, sign: 67}

func (p parts) bytes() []byte {
	b := []byte{p.mark}
	b = binary.BigEndian.AppendUint32(b, p.index)
	b = binary.BigEndian.AppendUint32(b, p.ack)
	b = append(b, plainKeys(keys(1, p.three)...)...)
	b = binary.BigEndian.AppendUint16(b, uint16(p.box))
	b = append(b, noise(2, p.box)...)
	return append(b, plainKeys(keys(3, p.sign)...)...)
}

// J3

func TestDecode(t *testing.T) {
	for n := 1; n <= 1000; n++ {
		f := some(int64(n), 64+n%201)
		f.Index, f.Ack = uint32(1001-n), uint32(n)
		if got, e := frame.Decode(plainEncode(f)); !sameFrame(got, f) || e != api.OK {
			t.Errorf("%d: %v %v", n, got, e)
		}
	}
}

// TestDecodeCutShort: at each byte.
func TestDecodeCutShort(t *testing.T) {
	refused(t, "nil", nil, api.ErrShort)
	for _, size := range []int{64, 264} {
		b := plainEncode(some(1, size))
		for n := range b {
			refused(t, n, b[:n], api.ErrShort)
		}
	}
}

// TestDecodeWithATail: up to 8000 bytes in all there are bytes left, and then there are too many.
func TestDecodeWithATail(t *testing.T) {
	b := plainEncode(some(2, 100))
	for _, size := range []int{len(b) + 1, len(b) + 2, 2 * len(b), 4000, 4001, 7999, 8000} {
		refused(t, size, append(slices.Clone(b), make([]byte, size-len(b))...), api.ErrTail)
	}
	for _, size := range []int{8001, 8002, 65536, 65536 + len(b), 1 << 24} {
		refused(t, size, append(slices.Clone(b), make([]byte, size-len(b))...), api.ErrLong)
	}
}

// TestDecodeOfTooMany: that is told ahead of all that is wrong with these bytes.
func TestDecodeOfTooMany(t *testing.T) {
	for _, c := range []byte{0, 1, 2, 255} {
		refused(t, c, bytes.Repeat([]byte{c}, 8001), api.ErrLong)
	}
	refused(t, "8000 of 0", make([]byte, 8000), api.ErrTail)
}

// TestDecodeOfOnePart: of bytes that are right but for one part.
func TestDecodeOfOnePart(t *testing.T) {
	if f, e := frame.Decode(right.bytes()); f.Index != 1 || e != api.OK {
		t.Errorf("%v %v", f, e)
	}
	for mark := range 256 {
		if mark != 1 {
			p := right
			p.mark = byte(mark)
			refused(t, p, p.bytes(), api.ErrShape)
		}
	}
	for _, x := range []struct {
		do   func(p *parts, n int)
		of   []int
		want api.Errno
	}{
		{func(p *parts, n int) { p.index = uint32(n) }, []int{0, 1001, 1002, 65537, 1 << 24, 1<<24 + 1, 1 << 31, 1<<32 - 1}, api.ErrShape},
		{func(p *parts, n int) { p.ack = uint32(n) }, []int{1001, 1002, 65536, 1 << 24, 1 << 31, 1<<32 - 1}, api.ErrShape},
		{func(p *parts, n int) { p.three = n }, []int{0, 1, 2}, api.ErrShape},
		{func(p *parts, n int) { p.three = n }, []int{4, 5, 67, 100, 101}, api.ErrLong},
		{func(p *parts, n int) { p.box = n }, []int{0, 1, 32, 63}, api.ErrShort},
		{func(p *parts, n int) { p.box = n }, []int{265, 266, 320, 4000, 4001}, api.ErrLong},
		{func(p *parts, n int) { p.sign = n }, []int{0, 1, 66}, api.ErrSign},
		{func(p *parts, n int) { p.sign = n }, []int{68, 69, 100, 101}, api.ErrLong},
	} {
		for _, n := range x.of {
			p := right
			x.do(&p, n)
			refused(t, p, p.bytes(), x.want)
		}
	}
}

// TestDecodeTellsTheFirstError: R2.
func TestDecodeTellsTheFirstError(t *testing.T) {
	for i, x := range []struct {
		p    parts
		cut  int // bytes too few; or, below 0, too many
		want api.Errno
	}{
		{parts{2, 1, 0, 3, 64, 67}, 1, api.ErrShort},
		{parts{2, 1, 0, 3, 64, 67}, -1, api.ErrTail},
		{parts{2, 1, 0, 4, 64, 67}, 0, api.ErrLong},
		{parts{2, 0, 0, 2, 265, 67}, 0, api.ErrLong},
		{parts{2, 0, 0, 2, 63, 68}, 0, api.ErrLong},
		{parts{1, 0, 1001, 2, 63, 66}, 1, api.ErrShort},
		{parts{1, 0, 1001, 2, 63, 66}, -1, api.ErrTail},
		{parts{2, 1, 0, 3, 63, 67}, 0, api.ErrShape},
		{parts{2, 1, 0, 3, 64, 66}, 0, api.ErrShape},
		{parts{1, 1, 0, 2, 63, 67}, 0, api.ErrShape},
		{parts{1, 1, 0, 2, 64, 66}, 0, api.ErrShape},
		{parts{1, 0, 0, 3, 63, 66}, 0, api.ErrShape},
		{parts{1, 1, 1001, 3, 63, 66}, 0, api.ErrShape},
		{parts{1, 1, 0, 3, 63, 66}, 0, api.ErrShort},
		{parts{1, 0, 0, 3, 265, 67}, 0, api.ErrLong},
		{parts{1, 1, 0, 4, 64, 67}, 100, api.ErrLong},
		{parts{1, 1, 0, 3, 265, 68}, 2500, api.ErrShort},
	} {
		b := x.p.bytes()
		if x.cut < 0 {
			b = append(b, make([]byte, -x.cut)...)
		} else {
			b = b[:len(b)-x.cut]
		}
		refused(t, i, b, x.want)
	}
}

// TestDecodeOfAnything: as another way of reading tells it, of bytes with something changed.
func TestDecodeOfAnything(t *testing.T) {
	r := rand.New(rand.NewSource(7))
	told := map[api.Errno]int{}
	for i := range 30000 {
		b := parts{
			mark:  byte(1 + r.Intn(8)/7),
			index: numbers[r.Intn(6)+r.Intn(2)], ack: numbers[r.Intn(6)+r.Intn(2)],
			three: 3 + r.Intn(12)/10 - r.Intn(12)/11, box: 62 + r.Intn(205), sign: 67 + r.Intn(12)/11 - r.Intn(12)/11,
		}.bytes()
		switch i % 4 {
		case 0:
			b[r.Intn(len(b))] ^= 1 << r.Intn(8)
		case 1:
			b = b[:len(b)-r.Intn(8)/7]
		case 2:
			b = append(b, make([]byte, r.Intn(8)/7)...)
		}
		got, e := frame.Decode(b)
		want, wrong := plainDecode(b)
		if !sameFrame(got, want) || e != wrong {
			t.Fatalf("%x: %v %v, want %v %v", b, got, e, want, wrong)
		}
		told[e]++
	}
	for _, e := range []api.Errno{api.OK, api.ErrShort, api.ErrTail, api.ErrLong, api.ErrShape, api.ErrSign} {
		if told[e] < 100 {
			t.Errorf("%v: told %d times", e, told[e])
		}
	}
}

// TestDecodeKeepsNothing: R5: bytes are not changed, and may be changed afterwards; so may what was answered.
func TestDecodeKeepsNothing(t *testing.T) {
	want := some(8, 80)
	b := plainEncode(want)
	was := slices.Clone(b)
	one, _ := frame.Decode(b)
	other, _ := frame.Decode(b)
	if !bytes.Equal(b, was) {
		t.Errorf("changed: %x", b)
	}
	clear(one.Box[:cap(one.Box)])
	if !slices.Equal(one.Sign, want.Sign) {
		t.Errorf("changed with its Box: %x", one.Sign)
	}
	clear(one.Sign[:cap(one.Sign)])
	if !bytes.Equal(b, was) {
		t.Errorf("changed: %x", b)
	}
	clear(b)
	if !sameFrame(other, want) {
		t.Errorf("changed: %v, want %v", other, want)
	}
}
