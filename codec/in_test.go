package codec_test

import (
	"bytes"
	"math"
	"slices"
	"testing"

	"cablegram/api"
	"cablegram/codec"
)

// ended tells how an In ended; it must tell the same again.
func ended(t *testing.T, i *codec.In) api.Errno {
	t.Helper()
	e := i.End()
	if again := i.End(); again != e {
		t.Errorf("%v, and then %v", e, again)
	}
	return e
}

// nothing asks that whatever is read is 0, or nothing, and the error stays.
func nothing(t *testing.T, what any, i *codec.In, want api.Errno) {
	t.Helper()
	for range 2 {
		for _, size := range []int{1, 2, 4, 8, 3, 0} {
			if n := i.Number(size); n != 0 {
				t.Errorf("%v: Number(%d) is %d", what, size, n)
			}
		}
		for _, most := range []int{0, 4000, -1, math.MaxInt} {
			if b := i.Bytes(most); len(b) != 0 {
				t.Errorf("%v: Bytes(%d) is %x", what, most, b)
			}
			if l := i.Keys(most); len(l) != 0 {
				t.Errorf("%v: Keys(%d) is %x", what, most, l)
			}
		}
		if k := i.Key(); k != (api.Key{}) {
			t.Errorf("%v: Key is %x", what, k)
		}
		if e := ended(t, i); e != want {
			t.Errorf("%v: %v, want %v", what, e, want)
		}
	}
}

// I2

func TestInNumber(t *testing.T) {
	for _, n := range about() {
		for _, size := range []int{1, 2, 4, 8} {
			b := plainNumber(n, size)
			want := n
			if size < 8 {
				want &= 1<<(8*size) - 1
			}
			i := codec.Read(b)
			if got := i.Number(size); got != want || ended(t, i) != api.OK {
				t.Errorf("%x as %d: %d %v, want %d", b, size, got, i.End(), want)
			}
			i = codec.Read(append(b, 99))
			if got := i.Number(size); got != want || ended(t, i) != api.ErrTail {
				t.Errorf("%x as %d, and a byte: %d %v", b, size, got, i.End())
			}
			if got := i.Number(1); got != 99 || ended(t, i) != api.OK {
				t.Errorf("the byte behind %x: %d %v", b, got, i.End())
			}
			for left := range size {
				i := codec.Read(bytes.Repeat([]byte{255}, left))
				if got := i.Number(size); got != 0 {
					t.Errorf("%d as %d: %d", left, size, got)
				}
				nothing(t, size, i, api.ErrShort)
			}
		}
	}
}

// TestInNumberOfNoKind: with bytes enough, too, and with none.
func TestInNumberOfNoKind(t *testing.T) {
	for _, size := range wrongSizes {
		for _, b := range [][]byte{nil, {1}, bytes.Repeat([]byte{1}, 1000)} {
			i := codec.Read(b)
			if n := i.Number(size); n != 0 {
				t.Errorf("%d of %d: %d", size, len(b), n)
			}
			nothing(t, size, i, api.ErrShape)
		}
	}
}

// mosts are what may be told as most.
var mosts = []int{math.MinInt, -65536, -1, 0, 1, 2, 3, 99, 100, 101, 255, 256, 3999, 4000, 4001, 65535, 65536, math.MaxInt}

// listed tells I2's error of a count, of which so many have their bytes.
func listed(count, have, most, limit int) api.Errno {
	switch {
	case count > most || count > limit:
		return api.ErrLong
	case have < count:
		return api.ErrShort
	}
	return api.OK
}

func TestInBytes(t *testing.T) {
	for _, count := range []int{0, 1, 2, 3, 100, 255, 256, 258, 3999, 4000, 4001, 4096, 65535} {
		for _, have := range []int{0, 1, count - 1, count} {
			if have < 0 || have > count {
				continue
			}
			text := noise(int64(count), have)
			b := append([]byte{byte(count / 256), byte(count)}, text...)
			for _, most := range mosts {
				i := codec.Read(b)
				got, want := i.Bytes(most), listed(count, have, most, 4000)
				if want != api.OK {
					if len(got) != 0 {
						t.Errorf("%d of %d, at most %d: %x", have, count, most, got)
					}
					nothing(t, [3]int{have, count, most}, i, want)
				} else if !bytes.Equal(got, text) || ended(t, i) != api.OK {
					t.Errorf("%d of %d, at most %d: %x %v", have, count, most, got, i.End())
				}
			}
		}
	}
}

func TestInKeys(t *testing.T) {
	for _, count := range []int{0, 1, 2, 3, 67, 99, 100, 101, 255, 256, 257, 65535} {
		for _, have := range []int{0, 1, count - 1, count} {
			if have < 0 || have > count {
				continue
			}
			l := keys(int64(count), have)
			b := append([]byte{byte(count / 256), byte(count)}, flat(l)...)
			for _, most := range mosts {
				i := codec.Read(b)
				got, want := i.Keys(most), listed(count, have, most, 100)
				if want != api.OK {
					if len(got) != 0 {
						t.Errorf("%d of %d, at most %d: %x", have, count, most, got)
					}
					nothing(t, [3]int{have, count, most}, i, want)
				} else if !slices.Equal(got, l) || ended(t, i) != api.OK {
					t.Errorf("%d of %d, at most %d: %x %v", have, count, most, got, i.End())
				}
			}
		}
	}
}

// TestInPartsOfKeys: a key that is not whole is none, nor are those ahead of it.
func TestInPartsOfKeys(t *testing.T) {
	for have := range 64 {
		i := codec.Read(append([]byte{0, 2}, noise(3, have)...))
		if l := i.Keys(2); len(l) != 0 {
			t.Errorf("of %d bytes: %x", have, l)
		}
		nothing(t, have, i, api.ErrShort)
	}
}

// TestInCountsAreWhole: where not both bytes of how many there are are there it is too short, whatever most is.
func TestInCountsAreWhole(t *testing.T) {
	for _, b := range [][]byte{nil, {}, {0}, {255}} {
		for _, most := range mosts {
			i := codec.Read(b)
			if got := i.Bytes(most); len(got) != 0 {
				t.Errorf("%x, at most %d: %x", b, most, got)
			}
			nothing(t, most, i, api.ErrShort)
			i = codec.Read(b)
			if got := i.Keys(most); len(got) != 0 {
				t.Errorf("%x, at most %d: %x", b, most, got)
			}
			nothing(t, most, i, api.ErrShort)
		}
	}
}

func TestInKey(t *testing.T) {
	for have := range 32 {
		i := codec.Read(bytes.Repeat([]byte{255}, have))
		if k := i.Key(); k != (api.Key{}) {
			t.Errorf("of %d: %x", have, k)
		}
		nothing(t, have, i, api.ErrShort)
	}
	l := keys(4, 2)
	i := codec.Read(flat(l))
	if k := i.Key(); k != l[0] || ended(t, i) != api.ErrTail {
		t.Errorf("%x %v", k, i.End())
	}
	if k := i.Key(); k != l[1] || ended(t, i) != api.OK {
		t.Errorf("%x %v", k, i.End())
	}
	i.Key()
	nothing(t, "a third one", i, api.ErrShort)
}

// TestInEnd: that bytes are left is no error that stays.
func TestInEnd(t *testing.T) {
	for _, b := range [][]byte{nil, {}} {
		if e := ended(t, codec.Read(b)); e != api.OK {
			t.Error(e)
		}
	}
	i := codec.Read([]byte{1, 0, 1, 7})
	for _, want := range []uint64{1, 0, 1} {
		if e := ended(t, i); e != api.ErrTail {
			t.Error(e)
		}
		if n := i.Number(1); n != want {
			t.Errorf("%d, want %d", n, want)
		}
	}
	if e := ended(t, i); e != api.ErrTail {
		t.Error(e)
	}
	if n := i.Number(1); n != 7 || ended(t, i) != api.OK {
		t.Errorf("%d %v", n, i.End())
	}
	i.Number(1)
	nothing(t, "behind the end", i, api.ErrShort)
}

// TestInKeepsTheFirstError: behind what was read well, and with bytes left.
func TestInKeepsTheFirstError(t *testing.T) {
	for i, x := range []struct {
		head []byte
		read func(i *codec.In)
		want api.Errno
	}{
		{nil, func(i *codec.In) { i.Number(3) }, api.ErrShape},
		{[]byte{0, 3}, func(i *codec.In) { i.Bytes(2) }, api.ErrLong},
		{[]byte{15, 161}, func(i *codec.In) { i.Bytes(5000) }, api.ErrLong},
		{[]byte{0, 3}, func(i *codec.In) { i.Keys(2) }, api.ErrLong},
		{[]byte{0, 101}, func(i *codec.In) { i.Keys(200) }, api.ErrLong},
		{[]byte{15, 160}, func(i *codec.In) { i.Bytes(4000) }, api.ErrShort},
		{[]byte{0, 100}, func(i *codec.In) { i.Keys(100) }, api.ErrShort},
	} {
		in := codec.Read(slices.Concat([]byte{5}, x.head, noise(5, 3000)))
		if n := in.Number(1); n != 5 || ended(t, in) != api.ErrTail {
			t.Errorf("%d: %d %v", i, n, in.End())
		}
		x.read(in)
		nothing(t, i, in, x.want)
	}
}

// TestInThatWasNotMade: R1: a nil one has nothing, and tells so; the zero one is that of no bytes.
func TestInThatWasNotMade(t *testing.T) {
	var none *codec.In
	if e := ended(t, none); e != api.ErrShort {
		t.Error(e)
	}
	nothing(t, "nil", none, api.ErrShort)
	zero := new(codec.In)
	if e := ended(t, zero); e != api.OK {
		t.Error(e)
	}
	zero.Number(1)
	nothing(t, "zero", zero, api.ErrShort)
}

// TestInKeepsNothingOfOthers: what was handed in is not changed, and may be changed afterwards; so may what was answered.
func TestInKeepsNothingOfOthers(t *testing.T) {
	l := keys(6, 2)
	whole := slices.Concat([]byte("\x00\x02ab\x00\x02cd\x00\x02"), flat(l), []byte{7})
	b := slices.Clone(whole)
	i := codec.Read(b)
	first := i.Bytes(2)
	if !bytes.Equal(b, whole) {
		t.Errorf("changed: %x", b)
	}
	clear(b)
	clear(first[:cap(first)])
	second := i.Bytes(2)
	if string(second) != "cd" {
		t.Errorf("%q", second)
	}
	clear(second[:cap(second)])
	got := i.Keys(2)
	if !slices.Equal(got, l) {
		t.Errorf("%x, want %x", got, l)
	}
	clear(got[:cap(got)])
	if n := i.Number(1); n != 7 || ended(t, i) != api.OK {
		t.Errorf("%d %v", n, i.End())
	}
	if !bytes.Equal(b, make([]byte, len(whole))) {
		t.Errorf("changed: %x", b)
	}
}

func TestInsAreApart(t *testing.T) {
	b := []byte{1, 2}
	one, other := codec.Read(b), codec.Read(b)
	one.Number(1)
	other.Number(3)
	if n := one.Number(1); n != 2 || ended(t, one) != api.OK {
		t.Errorf("%d %v", n, one.End())
	}
	nothing(t, "the other one", other, api.ErrShape)
}
