package codec_test

import (
	"bytes"
	"crypto/sha256"
	"encoding/binary"
	"encoding/hex"
	"math"
	"math/rand"
	"slices"
	"testing"

	"cablegram/api"
	"cablegram/codec"
)

// kinds are all that there are.
var kinds = []int{1, 2, 4, 8, 9, 32}

// noise is of the same bytes each time.
func noise(seed int64, n int) []byte {
	b := make([]byte, n)
	rand.New(rand.NewSource(seed)).Read(b)
	return b
}

// keys are the same ones each time.
func keys(seed int64, n int) []api.Key {
	b := noise(seed, 32*n)
	l := make([]api.Key, n)
	for i := range l {
		l[i] = api.Key(b[32*i:])
	}
	return l
}

// flat is of keys' bytes, one behind the other.
func flat(l []api.Key) []byte {
	var b []byte
	for _, k := range l {
		b = append(b, k[:]...)
	}
	return b
}

// steps is of n bytes, that begin at 0, each so much above the one ahead of it.
func steps(by byte, n int) []byte {
	b := make([]byte, n)
	for i := range b {
		b[i] = by * byte(i)
	}
	return b
}

// plainNumber is a number's bytes by the library.
func plainNumber(n uint64, size int) []byte {
	return binary.BigEndian.AppendUint64(nil, n)[8-size:]
}

// plainEncode is I3 by the library.
func plainEncode(l []codec.Item) ([]byte, api.Errno) {
	var b []byte
	for _, x := range l {
		if !slices.Contains(kinds, x.Kind) {
			return nil, api.ErrShape
		}
	}
	for _, x := range l {
		switch {
		case x.Kind < 8 && x.N >= 1<<(8*x.Kind):
			return nil, api.ErrShape
		case x.Kind == 9 && len(x.B) > 4000, x.Kind == 32 && len(x.L) > 100:
			return nil, api.ErrLong
		case x.Kind == 9:
			b = append(binary.BigEndian.AppendUint16(b, uint16(len(x.B))), x.B...)
		case x.Kind == 32:
			b = append(binary.BigEndian.AppendUint16(b, uint16(len(x.L))), flat(x.L)...)
		default:
			b = append(b, plainNumber(x.N, x.Kind)...)
		}
	}
	return b, api.OK
}

// plainDecode is I3 by the library: the size of each item is found ahead of it.
func plainDecode(shape []int, b []byte) ([]codec.Item, api.Errno) {
	for _, kind := range shape {
		if !slices.Contains(kinds, kind) {
			return nil, api.ErrShape
		}
	}
	var l []codec.Item
	for _, kind := range shape {
		head, size := kind, 0
		if kind == 9 || kind == 32 {
			head = 2
			if len(b) < head {
				return nil, api.ErrShort
			}
			size = int(binary.BigEndian.Uint16(b))
			if kind == 9 && size > 4000 || kind == 32 && size > 100 {
				return nil, api.ErrLong
			}
			if kind == 32 {
				size *= 32
			}
		}
		if len(b) < head+size {
			return nil, api.ErrShort
		}
		x := codec.Item{Kind: kind}
		body := b[head : head+size]
		switch kind {
		case 9:
			x.B = body
		case 32:
			for part := range slices.Chunk(body, 32) {
				x.L = append(x.L, api.Key(part))
			}
		default:
			for _, c := range b[:head] {
				x.N = x.N<<8 + uint64(c)
			}
		}
		l, b = append(l, x), b[head+size:]
	}
	if len(b) > 0 {
		return nil, api.ErrTail
	}
	return l, api.OK
}

func sameItem(a, b codec.Item) bool {
	return a.Kind == b.Kind && a.N == b.N && bytes.Equal(a.B, b.B) && slices.Equal(a.L, b.L)
}

func sameItems(a, b []codec.Item) bool { return slices.EqualFunc(a, b, sameItem) }

func shapeOf(l []codec.Item) []int {
	var shape []int
	for _, x := range l {
		shape = append(shape, x.Kind)
	}
	return shape
}

// someItem is one that may be written; often one at an edge.
func someItem(r *rand.Rand) codec.Item {
	x := codec.Item{Kind: kinds[r.Intn(len(kinds))]}
	switch x.Kind {
	case 9:
		x.B = make([]byte, r.Intn(5)*r.Intn(70))
		r.Read(x.B)
	case 32:
		x.L = keys(r.Int63(), r.Intn(4))
	default:
		x.N = r.Uint64() >> (64 - 8*x.Kind)
		if r.Intn(3) == 0 {
			x.N = []uint64{0, 1, math.MaxUint64 >> (64 - 8*x.Kind)}[r.Intn(3)]
		}
	}
	return x
}

func someItems(r *rand.Rand) []codec.Item {
	var l []codec.Item
	for range r.Intn(8) {
		l = append(l, someItem(r))
	}
	return l
}

// everyKind has items of each Kind, at the edges.
func everyKind() []codec.Item {
	return []codec.Item{
		{Kind: 1}, {Kind: 1, N: 1}, {Kind: 1, N: 255},
		{Kind: 2}, {Kind: 2, N: 258}, {Kind: 2, N: 65535},
		{Kind: 4}, {Kind: 4, N: 0x01020304}, {Kind: 4, N: 1<<32 - 1},
		{Kind: 8}, {Kind: 8, N: 0x0102030405060708}, {Kind: 8, N: math.MaxUint64},
		{Kind: 9}, {Kind: 9, B: []byte{7}}, {Kind: 9, B: noise(10, 258)}, {Kind: 9, B: noise(11, 4000)},
		{Kind: 32}, {Kind: 32, L: keys(12, 1)}, {Kind: 32, L: keys(13, 67)}, {Kind: 32, L: keys(14, 100)},
	}
}

// I3

func TestExamples(t *testing.T) {
	l := []codec.Item{{Kind: 2, N: 258}, {Kind: 9, B: []byte{7, 8}}}
	b := []byte{1, 2, 0, 2, 7, 8}
	if got, e := codec.Encode(l); !bytes.Equal(got, b) || e != api.OK {
		t.Errorf("%x %v", got, e)
	}
	if got, e := codec.Decode([]int{2, 9}, b); !sameItems(got, l) || e != api.OK {
		t.Errorf("%v %v", got, e)
	}
	if got, e := codec.Decode([]int{2}, b); len(got) != 0 || e != api.ErrTail {
		t.Errorf("%v %v", got, e)
	}
	if got, e := codec.Decode([]int{2, 9, 1}, b); len(got) != 0 || e != api.ErrShort {
		t.Errorf("%v %v", got, e)
	}
	if got, e := codec.Encode([]codec.Item{{Kind: 1, N: 256}}); len(got) != 0 || e != api.ErrShape {
		t.Errorf("%x %v", got, e)
	}
}

// TestAsAnotherProgram: sizes, and digests of the bytes, are another program's, of the chapter's words.
func TestAsAnotherProgram(t *testing.T) {
	var hundred []api.Key
	for i := range 100 {
		hundred = append(hundred, api.Key(steps(byte(i), 32)))
	}
	for i, x := range []struct {
		l      []codec.Item
		size   int
		digest string
	}{
		{[]codec.Item{{Kind: 1, N: 200}, {Kind: 2, N: 40000}, {Kind: 4, N: 3000000000}, {Kind: 8, N: math.MaxUint64 - 1}, {Kind: 9, B: steps(3, 300)}, {Kind: 32, L: []api.Key{api.Key(steps(1, 32)), api.Key(steps(7, 32))}}, {Kind: 9}, {Kind: 32}}, 387, "d3a7a9951cabe321331b4851275d4b308a257f7009953043f478f90f0887879a"},
		{[]codec.Item{{Kind: 9, B: steps(1, 4000)}, {Kind: 32, L: hundred}, {Kind: 1}}, 7205, "99f3275c8621433a5fb26c8ebef7c70e38af3d758ebb4bfa12d8631d24f824af"},
	} {
		b, e := codec.Encode(x.l)
		digest := sha256.Sum256(b)
		if len(b) != x.size || hex.EncodeToString(digest[:]) != x.digest || e != api.OK {
			t.Errorf("%d: %d bytes, %x, %v", i, len(b), digest, e)
		}
		if l, e := codec.Decode(shapeOf(x.l), b); !sameItems(l, x.l) || e != api.OK {
			t.Errorf("%d: %v %v", i, l, e)
		}
	}
}

func TestOfNothing(t *testing.T) {
	for _, l := range [][]codec.Item{nil, {}} {
		if b, e := codec.Encode(l); len(b) != 0 || e != api.OK {
			t.Errorf("%x %v", b, e)
		}
	}
	for _, shape := range [][]int{nil, {}} {
		for _, b := range [][]byte{nil, {}} {
			if l, e := codec.Decode(shape, b); len(l) != 0 || e != api.OK {
				t.Errorf("%v %v", l, e)
			}
		}
		if l, e := codec.Decode(shape, []byte{0}); len(l) != 0 || e != api.ErrTail {
			t.Errorf("%v %v", l, e)
		}
	}
}

// TestEmptyIsNil: R4: within an item, too.
func TestEmptyIsNil(t *testing.T) {
	for _, l := range [][]codec.Item{{{Kind: 9}, {Kind: 32}}, {{Kind: 9, B: []byte{}}, {Kind: 32, L: []api.Key{}}}} {
		if b, e := codec.Encode(l); !bytes.Equal(b, make([]byte, 4)) || e != api.OK {
			t.Errorf("%x %v", b, e)
		}
	}
}

// TestWrongItems: each behind one that is right, and ahead of it.
func TestWrongItems(t *testing.T) {
	right := codec.Item{Kind: 1, N: 1}
	for i, x := range []struct {
		x    codec.Item
		want api.Errno
	}{
		{codec.Item{Kind: 1, N: 256}, api.ErrShape},
		{codec.Item{Kind: 2, N: 65536}, api.ErrShape},
		{codec.Item{Kind: 4, N: 1 << 32}, api.ErrShape},
		{codec.Item{Kind: 4, N: math.MaxUint64}, api.ErrShape},
		{codec.Item{Kind: 9, B: make([]byte, 4001)}, api.ErrLong},
		{codec.Item{Kind: 9, B: make([]byte, 65537)}, api.ErrLong},
		{codec.Item{Kind: 32, L: make([]api.Key, 101)}, api.ErrLong},
		{codec.Item{Kind: 32, L: make([]api.Key, 65537)}, api.ErrLong},
	} {
		for _, l := range [][]codec.Item{{x.x}, {right, x.x}, {x.x, right}} {
			if b, e := codec.Encode(l); len(b) != 0 || e != x.want {
				t.Errorf("%d: %x %v, want %v", i, b, e, x.want)
			}
		}
	}
}

// TestFirstWrongItem: of several that are wrong the first one's error is told.
func TestFirstWrongItem(t *testing.T) {
	shape, long := codec.Item{Kind: 1, N: 256}, codec.Item{Kind: 9, B: make([]byte, 4001)}
	if _, e := codec.Encode([]codec.Item{shape, long}); e != api.ErrShape {
		t.Error(e)
	}
	if _, e := codec.Encode([]codec.Item{long, shape}); e != api.ErrLong {
		t.Error(e)
	}
}

// noKinds are none.
func noKinds() []int {
	l := []int{-1, -2, -32, 256 + 1, 256 + 9, 1 << 32, 1<<32 + 9, math.MaxInt, math.MinInt, math.MinInt + 1}
	for kind := range 300 {
		if !slices.Contains(kinds, kind) {
			l = append(l, kind)
		}
	}
	return l
}

// TestNoKinds: wherever one stands, ErrShape is told ahead of all other errors.
func TestNoKinds(t *testing.T) {
	right, long := codec.Item{Kind: 1, N: 1}, codec.Item{Kind: 9, B: make([]byte, 4001)}
	for _, kind := range noKinds() {
		wrong := codec.Item{Kind: kind, N: 1, B: []byte{1}, L: keys(1, 1)}
		for i, l := range [][]codec.Item{{wrong}, {right, wrong}, {wrong, right}, {long, wrong}, {right, long, right, wrong, right}} {
			if b, e := codec.Encode(l); len(b) != 0 || e != api.ErrShape {
				t.Errorf("%d, %d: %x %v", kind, i, b, e)
			}
		}
		for i, x := range []struct {
			shape []int
			b     []byte
		}{
			{[]int{kind}, nil}, {[]int{kind}, []byte{1}}, {[]int{kind}, make([]byte, 2000)},
			{[]int{1, kind}, []byte{1}}, {[]int{kind, 1}, []byte{1}},
			{[]int{1, kind}, nil}, // it would be too short
			{[]int{9, kind}, []byte{255, 255}},
			{[]int{1, 9, 32, kind, 8}, make([]byte, 5000)},
		} {
			if l, e := codec.Decode(x.shape, x.b); len(l) != 0 || e != api.ErrShape {
				t.Errorf("%d, %d: %v %v", kind, i, l, e)
			}
		}
	}
}

// TestOtherKindsPartsAreNotLookedAt: what an item has for other Kinds is neither written nor wrong.
func TestOtherKindsPartsAreNotLookedAt(t *testing.T) {
	for _, x := range everyKind() {
		other := codec.Item{Kind: x.Kind, N: math.MaxUint64, B: make([]byte, 4001), L: make([]api.Key, 101)}
		switch x.Kind {
		case 9:
			other.B = x.B
		case 32:
			other.L = x.L
		default:
			other.N = x.N
		}
		want, _ := codec.Encode([]codec.Item{x})
		b, e := codec.Encode([]codec.Item{other})
		if !bytes.Equal(b, want) || e != api.OK {
			t.Errorf("%d: %x %v, want %x", x.Kind, b, e, want)
		}
		if l, e := codec.Decode([]int{x.Kind}, b); len(l) != 1 || !sameItem(l[0], x) || e != api.OK {
			t.Errorf("%d: %v %v", x.Kind, l, e)
		}
	}
}

func TestEncode(t *testing.T) {
	r := rand.New(rand.NewSource(20))
	for i := range 2000 {
		l := someItems(r)
		if r.Intn(3) == 0 && len(l) > 0 { // often something is wrong
			x := &l[r.Intn(len(l))]
			x.N, x.B = r.Uint64(), make([]byte, 3990+r.Intn(20))
			if r.Intn(3) == 0 {
				x.Kind = r.Intn(40)
			}
		}
		b, e := codec.Encode(l)
		if want, wrong := plainEncode(l); !bytes.Equal(b, want) || e != wrong {
			t.Errorf("%d: %x %v, want %x %v", i, b, e, want, wrong)
		}
	}
}

// TestDecode: of bytes that nobody wrote, of those that somebody did, and of those with a byte changed.
func TestDecode(t *testing.T) {
	r := rand.New(rand.NewSource(21))
	told := map[api.Errno]int{}
	for i := range 20000 {
		l := someItems(r)
		shape := shapeOf(l)
		b, _ := codec.Encode(l)
		switch {
		case i%4 == 0:
			b = noise(r.Int63(), r.Intn(40))
			for at := range b { // small counts are there often
				b[at] &= byte(r.Intn(256)) & byte(r.Intn(256))
			}
		case i%4 == 1 && len(b) > 0:
			b[r.Intn(len(b))] ^= 1 << r.Intn(8)
		case i%4 == 2 && len(shape) > 0:
			shape[r.Intn(len(shape))] = kinds[r.Intn(len(kinds))]
		}
		got, e := codec.Decode(shape, b)
		want, wrong := plainDecode(shape, b)
		if !sameItems(got, want) || e != wrong {
			t.Errorf("%v of %x: %v %v, want %v %v", shape, b, got, e, want, wrong)
		}
		told[e]++
	}
	for _, e := range []api.Errno{api.OK, api.ErrShort, api.ErrTail, api.ErrLong} {
		if told[e] < 100 {
			t.Errorf("%v: told %d times", e, told[e])
		}
	}
}

// TestDecodeTellsTheFirstError: of what would be wrong later nothing is told.
func TestDecodeTellsTheFirstError(t *testing.T) {
	for i, x := range []struct {
		shape []int
		b     []byte
		want  api.Errno
	}{
		{[]int{9, 9}, []byte{15, 161}, api.ErrLong},
		{[]int{9, 9}, []byte{0, 0, 15, 161}, api.ErrLong},
		{[]int{9, 9}, []byte{0, 3, 15, 161}, api.ErrShort},
		{[]int{32}, []byte{0, 101}, api.ErrLong},
		{[]int{32, 1}, append([]byte{0, 100}, make([]byte, 3199)...), api.ErrShort},
		{[]int{32, 1}, append([]byte{0, 100}, make([]byte, 3200)...), api.ErrShort},
		{[]int{32, 1}, append([]byte{0, 100}, make([]byte, 3202)...), api.ErrTail},
		{[]int{8}, make([]byte, 7), api.ErrShort},
		{[]int{8}, make([]byte, 9), api.ErrTail},
	} {
		if l, e := codec.Decode(x.shape, x.b); len(l) != 0 || e != x.want {
			t.Errorf("%d: %v %v, want %v", i, l, e, x.want)
		}
	}
}

// TestNothingIsShared: what is handed in is not changed, and what is answered shares nothing with it, nor with itself.
func TestNothingIsShared(t *testing.T) {
	fresh := func() []codec.Item {
		return []codec.Item{{Kind: 9, B: []byte("abc")}, {Kind: 32, L: keys(30, 2)}, {Kind: 9, B: []byte("d")}, {Kind: 32, L: keys(31, 1)}}
	}
	l := fresh()
	b, _ := codec.Encode(l)
	if !sameItems(l, fresh()) {
		t.Errorf("changed: %v", l)
	}
	whole := slices.Clone(b)
	shape := []int{9, 32, 9, 32}
	got, _ := codec.Decode(shape, b)
	if !bytes.Equal(b, whole) || !slices.Equal(shape, []int{9, 32, 9, 32}) {
		t.Errorf("changed: %x, %v", b, shape)
	}
	clear(b[:cap(b)])
	if !sameItems(got, fresh()) || !sameItems(l, fresh()) {
		t.Errorf("%v, %v", got, l)
	}
	for i := range got {
		clear(got[i].B[:cap(got[i].B)])
		clear(got[i].L[:cap(got[i].L)])
		got[i] = fresh()[i]
		if !sameItems(got, fresh()) {
			t.Errorf("item %d is another one's, too: %v", i, got)
		}
	}
	again, e := codec.Encode(l)
	if !bytes.Equal(again, whole) || e != api.OK {
		t.Errorf("%x %v", again, e)
	}
}

// I4

func TestWhatIsEncodedIsDecoded(t *testing.T) {
	lists := [][]codec.Item{everyKind()}
	for _, x := range everyKind() {
		lists = append(lists, []codec.Item{x})
	}
	r := rand.New(rand.NewSource(40))
	for range 1000 {
		lists = append(lists, someItems(r))
	}
	for i, l := range lists {
		b, e := codec.Encode(l)
		if e != api.OK {
			t.Fatal(i, e)
		}
		if got, e := codec.Decode(shapeOf(l), b); !sameItems(got, l) || e != api.OK {
			t.Errorf("%d: %v %v, want %v", i, got, e, l)
		}
	}
}

// TestWhatIsDecodedIsEncoded: whoever wrote it.
func TestWhatIsDecodedIsEncoded(t *testing.T) {
	r := rand.New(rand.NewSource(41))
	n := 0
	for range 20000 {
		var shape []int
		for range r.Intn(4) {
			shape = append(shape, kinds[r.Intn(len(kinds))])
		}
		b := noise(r.Int63(), r.Intn(12))
		for at := range b {
			b[at] &= byte(r.Intn(256)) & byte(r.Intn(256)) & byte(r.Intn(256))
		}
		l, e := codec.Decode(shape, b)
		if e != api.OK {
			continue
		}
		n++
		if !slices.Equal(shapeOf(l), shape) {
			t.Errorf("%v, want %v", l, shape)
		}
		if again, e := codec.Encode(l); !bytes.Equal(again, b) || e != api.OK {
			t.Errorf("%v: %x %v, want %x", l, again, e, b)
		}
	}
	if n < 500 {
		t.Errorf("%d were decoded", n)
	}
}

// TestCutShortOrWithAByteMore: wherever it is cut, whatever is added.
func TestCutShortOrWithAByteMore(t *testing.T) {
	r := rand.New(rand.NewSource(42))
	lists := [][]codec.Item{{{Kind: 32, L: keys(43, 100)}, {Kind: 9, B: noise(44, 300)}}}
	for range 200 {
		lists = append(lists, someItems(r))
	}
	for i, l := range lists {
		b, _ := codec.Encode(l)
		for at := range b {
			if got, e := codec.Decode(shapeOf(l), b[:at]); len(got) != 0 || e != api.ErrShort {
				t.Errorf("%d, cut at %d of %d: %v %v", i, at, len(b), got, e)
			}
		}
		for _, more := range []int{0, 1, r.Intn(256), 255} {
			if got, e := codec.Decode(shapeOf(l), append(slices.Clone(b), byte(more))); len(got) != 0 || e != api.ErrTail {
				t.Errorf("%d, and %d: %v %v", i, more, got, e)
			}
		}
	}
}

// TestListsAreTold: no two lists of items, of the same Kinds, have the same bytes.
func TestListsAreTold(t *testing.T) {
	texts := [][]byte{nil, {0}, {0, 0}, {0, 1}, {1}, {1, 0}, {0, 0, 0}, {0, 1, 0}}
	seen := map[string]bool{}
	for _, a := range texts {
		for _, b := range texts {
			for _, n := range []uint64{0, 1, 256} {
				out, e := codec.Encode([]codec.Item{{Kind: 9, B: a}, {Kind: 2, N: n}, {Kind: 9, B: b}})
				if e != api.OK || seen[string(out)] {
					t.Errorf("%x %d %x: %x %v", a, n, b, out, e)
				}
				seen[string(out)] = true
			}
		}
	}
}
