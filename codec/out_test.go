package codec_test

import (
	"bytes"
	"math"
	"slices"
	"testing"

	"cablegram/api"
	"cablegram/codec"
)

// wrongSizes are no number's Kind.
var wrongSizes = []int{0, -1, -8, 3, 5, 6, 7, 9, 16, 32, 64, 256 + 1, 1 << 32, 1<<32 + 1, 1 << 61, 1<<61 + 8, math.MaxInt, math.MinInt, math.MinInt + 1}

// about are the numbers about the edges of each size.
func about() []uint64 {
	l := []uint64{0, 258, 0x0102030405060708, 0xf0e0d0c0b0a09080, math.MaxUint64}
	for bit := range 64 {
		l = append(l, 1<<bit-1, 1<<bit, 1<<bit+1)
	}
	return l
}

// done is what an Out tells at last; it must tell the same again.
func done(t *testing.T, o *codec.Out) ([]byte, api.Errno) {
	t.Helper()
	b, e := o.Done()
	if again, same := o.Done(); !bytes.Equal(again, b) || same != e {
		t.Errorf("%x %v, and then %x %v", b, e, again, same)
	}
	if e != api.OK && len(b) != 0 {
		t.Errorf("%x beside %v", b, e)
	}
	return b, e
}

// I1

func TestOutThatIsNew(t *testing.T) {
	var o codec.Out
	if b, e := done(t, &o); len(b) != 0 || e != api.OK {
		t.Errorf("%x %v", b, e)
	}
	if b, e := done(t, new(codec.Out)); len(b) != 0 || e != api.OK {
		t.Errorf("%x %v", b, e)
	}
}

func TestOutNumber(t *testing.T) {
	for _, n := range about() {
		for _, size := range []int{1, 2, 4, 8} {
			var o codec.Out
			o.Number(n, size)
			b, e := done(t, &o)
			if size < 8 && n >= 1<<(8*size) {
				if len(b) != 0 || e != api.ErrShape {
					t.Errorf("%d as %d: %x %v", n, size, b, e)
				}
			} else if !bytes.Equal(b, plainNumber(n, size)) || e != api.OK {
				t.Errorf("%d as %d: %x %v", n, size, b, e)
			}
		}
		for _, size := range wrongSizes {
			var o codec.Out
			o.Number(n, size)
			if b, e := done(t, &o); len(b) != 0 || e != api.ErrShape {
				t.Errorf("%d as %d: %x %v", n, size, b, e)
			}
		}
	}
}

func TestOutBytes(t *testing.T) {
	for _, n := range []int{0, 1, 2, 255, 256, 257, 258, 512, 3999, 4000} {
		var o codec.Out
		o.Bytes(noise(int64(n), n))
		if b, e := done(t, &o); !bytes.Equal(b, append([]byte{byte(n / 256), byte(n)}, noise(int64(n), n)...)) || e != api.OK {
			t.Errorf("%d: %x %v", n, b, e)
		}
	}
	for _, n := range []int{4001, 4096, 65535, 65536, 65537, 65536 + 4000, 1 << 24} {
		var o codec.Out
		o.Bytes(make([]byte, n))
		if b, e := done(t, &o); len(b) != 0 || e != api.ErrLong {
			t.Errorf("%d: %d bytes %v", n, len(b), e)
		}
	}
}

func TestOutKeys(t *testing.T) {
	for _, n := range []int{0, 1, 2, 31, 32, 67, 99, 100} {
		var o codec.Out
		l := keys(int64(n), n)
		o.Keys(l...)
		if b, e := done(t, &o); !bytes.Equal(b, append([]byte{0, byte(n)}, flat(l)...)) || e != api.OK {
			t.Errorf("%d: %x %v", n, b, e)
		}
	}
	for _, n := range []int{101, 128, 255, 256, 257, 65535, 65536, 65537, 65536 + 100} {
		var o codec.Out
		o.Keys(make([]api.Key, n)...)
		if b, e := done(t, &o); len(b) != 0 || e != api.ErrLong {
			t.Errorf("%d: %d bytes %v", n, len(b), e)
		}
	}
}

// TestOutInOrder: one behind the other, also behind a Done.
func TestOutInOrder(t *testing.T) {
	var o codec.Out
	k := keys(1, 2)
	o.Number(1, 1)
	o.Bytes([]byte("ab"))
	o.Bytes(nil)
	o.Keys(k[0])
	o.Keys()
	want := slices.Concat([]byte{1, 0, 2, 'a', 'b', 0, 0, 0, 1}, k[0][:], []byte{0, 0})
	if b, e := done(t, &o); !bytes.Equal(b, want) || e != api.OK {
		t.Errorf("%x %v, want %x", b, e, want)
	}
	o.Number(2, 2)
	o.Keys(k...)
	want = slices.Concat(want, []byte{0, 2, 0, 2}, k[0][:], k[1][:])
	if b, e := done(t, &o); !bytes.Equal(b, want) || e != api.OK {
		t.Errorf("%x %v, want %x", b, e, want)
	}
}

// outWrongs are the calls that tell an error.
func outWrongs() map[api.Errno][]func(o *codec.Out) {
	return map[api.Errno][]func(o *codec.Out){
		api.ErrShape: {
			func(o *codec.Out) { o.Number(0, 3) },
			func(o *codec.Out) { o.Number(256, 1) },
			func(o *codec.Out) { o.Number(1<<32, 4) },
		},
		api.ErrLong: {
			func(o *codec.Out) { o.Bytes(make([]byte, 4001)) },
			func(o *codec.Out) { o.Keys(make([]api.Key, 101)...) },
		},
	}
}

// TestOutKeepsTheFirstError: whatever is written ahead of it and behind it, and whether Done was asked amid them.
func TestOutKeepsTheFirstError(t *testing.T) {
	rights := []func(o *codec.Out){
		func(o *codec.Out) {},
		func(o *codec.Out) { o.Number(7, 1) },
		func(o *codec.Out) { o.Bytes([]byte("ab")) },
		func(o *codec.Out) { o.Bytes(nil) },
		func(o *codec.Out) { o.Keys(api.Key{1}) },
	}
	wrongs := outWrongs()
	for want, firsts := range wrongs {
		for i, first := range firsts {
			for j, right := range rights {
				for other, seconds := range wrongs {
					for _, second := range seconds {
						var o codec.Out
						right(&o)
						first(&o)
						right(&o)
						if _, e := done(t, &o); e != want {
							t.Errorf("%v %d, %d: %v", want, i, j, e)
						}
						second(&o)
						right(&o)
						if _, e := done(t, &o); e != want {
							t.Errorf("%v %d, %d, %v: %v", want, i, j, other, e)
						}
					}
				}
			}
		}
	}
}

// TestOutThatWasNotMade: R1: a nil one is no place to write to, and tells so.
func TestOutThatWasNotMade(t *testing.T) {
	var none *codec.Out
	for range 2 {
		if b, e := done(t, none); len(b) != 0 || e != api.ErrShape {
			t.Errorf("%x %v", b, e)
		}
		none.Number(1, 1)
		none.Number(1, 3)
		none.Bytes([]byte("ab"))
		none.Bytes(make([]byte, 4001))
		none.Keys(api.Key{1})
		none.Keys(make([]api.Key, 101)...)
	}
}

// TestOutKeepsNothingOfOthers: what was handed in is not changed, and may be changed afterwards; so may what was answered.
func TestOutKeepsNothingOfOthers(t *testing.T) {
	var o codec.Out
	b, l := []byte("abc"), keys(2, 3)
	o.Bytes(b)
	o.Keys(l...)
	if string(b) != "abc" || !slices.Equal(l, keys(2, 3)) {
		t.Errorf("changed: %q, %x", b, l)
	}
	clear(b)
	clear(l)
	want := slices.Concat([]byte("\x00\x03abc\x00\x03"), flat(keys(2, 3)))
	got, e := o.Done()
	if !bytes.Equal(got, want) || e != api.OK {
		t.Errorf("%x %v, want %x", got, e, want)
	}
	clear(got[:cap(got)])
	other, _ := o.Done()
	if !bytes.Equal(other, want) {
		t.Errorf("%x, want %x", other, want)
	}
	o.Number(9, 1)
	if b, e := done(t, &o); !bytes.Equal(b, append(want, 9)) || e != api.OK {
		t.Errorf("%x %v", b, e)
	}
	if !bytes.Equal(other, want) {
		t.Errorf("written behind it: %x", other)
	}
}

func TestOutsAreApart(t *testing.T) {
	var a, b codec.Out
	a.Number(1, 1)
	b.Number(1, 3)
	a.Number(2, 1)
	if l, e := done(t, &a); !bytes.Equal(l, []byte{1, 2}) || e != api.OK {
		t.Errorf("%x %v", l, e)
	}
	if _, e := done(t, &b); e != api.ErrShape {
		t.Error(e)
	}
}
