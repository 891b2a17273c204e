package frame_test

import (
	"bytes"
	"crypto/sha256"
	"encoding/binary"
	"encoding/hex"
	"math"
	"math/rand"
	"slices"
	"testing"

	"cablegram/api"
	"cablegram/frame"
)

// steps is of n bytes, that begin at 0, each so much above the one ahead of it.
func steps(by byte, n int) []byte {
	b := make([]byte, n)
	for i := range b {
		b[i] = by * byte(i)
	}
	return b
}

// noise is of the same bytes each time.
func noise(seed int64, n int) []byte {
	b := make([]byte, n)
	rand.New(rand.NewSource(seed)).Read(b)
	return b
}

// keys are the same ones each time.
func keys(seed int64, n int) []api.Key {
	b := noise(seed, 32*n)
	l := make([]api.Key, n)
	for i := range l {
		l[i] = api.Key(b[32*i:])
	}
	return l
}

// some is a frame that is right, with so many bytes in its Box.
func some(seed int64, box int) api.Frame {
	k := keys(seed, 3)
	return api.Frame{
		Index: 258, Ack: 3,
		Eph: k[0], Epoch: k[1], Next: k[2],
		Box:  noise(seed+1, box),
		Sign: keys(seed+2, 67),
	}
}

// copied shares nothing with the frame.
func copied(f api.Frame) api.Frame {
	f.Box, f.Sign = slices.Clone(f.Box), slices.Clone(f.Sign)
	return f
}

func sameFrame(a, b api.Frame) bool {
	return a.Index == b.Index && a.Ack == b.Ack && a.Eph == b.Eph && a.Epoch == b.Epoch && a.Next == b.Next &&
		bytes.Equal(a.Box, b.Box) && slices.Equal(a.Sign, b.Sign)
}

// isNothing is of R3: each list nil or empty, all else 0.
func isNothing(f api.Frame) bool { return sameFrame(f, api.Frame{}) }

// plainCheckCore is J1 without its last error.
func plainCheckCore(f api.Frame) api.Errno {
	if f.Index == 0 || f.Index > 1000 {
		return api.ErrShape
	}
	if f.Ack > 1000 {
		return api.ErrShape
	}
	if len(f.Box) < 64 {
		return api.ErrShort
	}
	if len(f.Box) > 264 {
		return api.ErrLong
	}
	return api.OK
}

// plainCheck is J1.
func plainCheck(f api.Frame) api.Errno {
	e := plainCheckCore(f)
	if e == api.OK && len(f.Sign) != 67 {
		return api.ErrSign
	}
	return e
}

// plainKeys are keys behind how many there are, by the library.
func plainKeys(l ...api.Key) []byte {
	b := binary.BigEndian.AppendUint16(nil, uint16(len(l)))
	for _, k := range l {
		b = append(b, k[:]...)
	}
	return b
}

// plainCore is J2's bytes, by the library, whatever is wrong with the frame.
func plainCore(f api.Frame) []byte {
	b := []byte{1}
	b = binary.BigEndian.AppendUint32(b, f.Index)
	b = binary.BigEndian.AppendUint32(b, f.Ack)
	b = append(b, plainKeys(f.Eph, f.Epoch, f.Next)...)
	b = binary.BigEndian.AppendUint16(b, uint16(len(f.Box)))
	return append(b, f.Box...)
}

// plainEncode is likewise.
func plainEncode(f api.Frame) []byte {
	return append(plainCore(f), plainKeys(f.Sign...)...)
}

// Numbers and lengths about each edge, and those that would be right in fewer bits.
var (
	numbers = []uint32{0, 1, 2, 500, 999, 1000, 1001, 1002, 65535, 65536, 65536 + 1, 65536 + 1000, 1 << 31, 1<<31 + 1, math.MaxUint32 - 1, math.MaxUint32}
	boxes   = []int{0, 1, 63, 64, 65, 200, 255, 256, 263, 264, 265, 320, 4000, 4001, 65536, 65536 + 64, 65536 + 264}
	signs   = []int{0, 1, 66, 67, 68, 99, 100, 101, 256, 256 + 67, 65536, 65536 + 67}
)

// J1

func TestExamples(t *testing.T) {
	if e := frame.Check(api.Frame{}); e != api.ErrShape {
		t.Error(e)
	}
	if e := frame.Check(api.Frame{Index: 1, Box: make([]byte, 63)}); e != api.ErrShort {
		t.Error(e)
	}
	f := api.Frame{Index: 1, Box: make([]byte, 64)}
	if e := frame.Check(f); e != api.ErrSign {
		t.Error(e)
	}
	f.Sign = make([]api.Key, 67)
	if b, e := frame.Encode(f); len(b) != 2319 || e != api.OK {
		t.Errorf("%d %v", len(b), e)
	}
	x := api.Bundle{Chain: api.Key{1}, Epoch: api.Key{2}, Sign: api.Key{3}, Noise: api.Key{4}}
	if got, e := frame.DecodeBundle(frame.EncodeBundle(x)); got != x || e != api.OK {
		t.Errorf("%x %v", got, e)
	}
}

// TestCheckOfOnePart: of a frame that is right but for one part.
func TestCheckOfOnePart(t *testing.T) {
	for _, n := range numbers {
		want := api.OK
		if n > 1000 {
			want = api.ErrShape
		}
		f := some(1, 64)
		if f.Ack = n; frame.Check(f) != want {
			t.Errorf("Ack %d: %v", n, frame.Check(f))
		}
		f = some(1, 64)
		if n == 0 {
			want = api.ErrShape
		}
		if f.Index = n; frame.Check(f) != want {
			t.Errorf("Index %d: %v", n, frame.Check(f))
		}
	}
	for _, n := range boxes {
		want := api.OK
		if n < 64 {
			want = api.ErrShort
		} else if n > 264 {
			want = api.ErrLong
		}
		if e := frame.Check(some(2, n)); e != want {
			t.Errorf("Box of %d: %v", n, e)
		}
	}
	for _, n := range signs {
		want := api.ErrSign
		if n == 67 {
			want = api.OK
		}
		f := some(3, 64)
		if f.Sign = make([]api.Key, n); frame.Check(f) != want {
			t.Errorf("Sign of %d: %v", n, frame.Check(f))
		}
	}
}

// TestCheckOfMoreParts: every mix of what may be wrong: the first error is told, of Core's too, and beside it nothing.
func TestCheckOfMoreParts(t *testing.T) {
	told, box, sign := map[api.Errno]int{}, make([]byte, 65536), make([]api.Key, 323)
	for _, index := range []uint32{0, 1, 1000, 1001, math.MaxUint32} {
		for _, ack := range []uint32{0, 1000, 1001, math.MaxUint32} {
			for _, size := range []int{0, 63, 64, 264, 265, 65536} {
				for _, count := range []int{0, 66, 67, 68, 101, 323} {
					f := api.Frame{Index: index, Ack: ack, Box: box[:size], Sign: sign[:count]}
					want, wantCore := plainCheck(f), plainCheckCore(f)
					told[want]++
					if e := frame.Check(f); e != want {
						t.Errorf("%d %d %d %d: Check %v, want %v", index, ack, size, count, e, want)
					}
					if b, e := frame.Encode(f); e != want || (len(b) > 0) != (want == api.OK) {
						t.Errorf("%d %d %d %d: Encode %d bytes, %v, want %v", index, ack, size, count, len(b), e, want)
					}
					if b, e := frame.Core(f); e != wantCore || (len(b) > 0) != (wantCore == api.OK) {
						t.Errorf("%d %d %d %d: Core %d bytes, %v, want %v", index, ack, size, count, len(b), e, wantCore)
					}
				}
			}
		}
	}
	if len(told) != 5 {
		t.Error(told)
	}
}

// TestCheckLooksAtNoKey: whatever the keys are, and the bytes of the Box.
func TestCheckLooksAtNoKey(t *testing.T) {
	for _, c := range []byte{0, 1, 255} {
		k := api.Key(bytes.Repeat([]byte{c}, 32))
		f := api.Frame{Index: 1, Eph: k, Epoch: k, Next: k, Box: bytes.Repeat([]byte{c}, 64), Sign: slices.Repeat([]api.Key{k}, 67)}
		if e := frame.Check(f); e != api.OK {
			t.Errorf("%d: %v", c, e)
		}
		if b, e := frame.Encode(f); !bytes.Equal(b, plainEncode(f)) || e != api.OK {
			t.Errorf("%d: %x %v", c, b, e)
		}
	}
}

// TestNilIsEmpty: R4.
func TestNilIsEmpty(t *testing.T) {
	for _, f := range []api.Frame{{Index: 1}, {Index: 1, Box: []byte{}, Sign: []api.Key{}}} {
		if e := frame.Check(f); e != api.ErrShort {
			t.Error(e)
		}
		f.Box = make([]byte, 64)
		if e := frame.Check(f); e != api.ErrSign {
			t.Error(e)
		}
		if b, e := frame.Core(f); len(b) != 173 || e != api.OK {
			t.Errorf("%d %v", len(b), e)
		}
	}
}

// J2

// TestAsAnotherProgram: sizes, and digests of the bytes, are another program's, of the chapter's words.
func TestAsAnotherProgram(t *testing.T) {
	var sign []api.Key
	for i := range 67 {
		sign = append(sign, api.Key(steps(byte(i), 32)))
	}
	for i, x := range []struct {
		index, ack uint32
		box        int
		coreSize   int
		core       string
		size       int
		whole      string
	}{
		{258, 3, 64, 173, "562e15e86e9a539537003f4b5d70005d9df9c9b2d9b9c15719ef274032c73a1a", 2319, "590cb1f9bc3bafd2e2d86e582714157ddd403e5f44419b6e08bd28061ac74875"},
		{1, 0, 264, 373, "62fcf4162af0076c35dda17b78e8cdead56023c6e285e602e3fbca522b4e5c3b", 2519, "95e6e81e2a79d2eeaf17d8313b4bb6d9aa00e816c48af2314e30af26f2a4f272"},
		{1000, 1000, 65, 174, "fd44fadaefc4450c772691b57bbcbaddd5988e040a40bbe2d831ff458dad466b", 2320, "8e43c0046fa13c81d76284189084d5c88d0a37fce5ef77572796009ac7a9da1f"},
		{256, 999, 200, 309, "cb7047000a92629d9bf633d7bb96909a2fc2210e37026f01777e21fcb6be3034", 2455, "c2155c54cb161f30f67ba128ae153258c71f3c652daa3e76aec3e59b4937ee95"},
	} {
		f := api.Frame{
			Index: x.index, Ack: x.ack,
			Eph: api.Key(steps(3, 32)), Epoch: api.Key(steps(5, 32)), Next: api.Key(steps(7, 32)),
			Box: steps(11, x.box), Sign: sign,
		}
		b, e := frame.Core(f)
		digest := sha256.Sum256(b)
		if len(b) != x.coreSize || hex.EncodeToString(digest[:]) != x.core || e != api.OK {
			t.Errorf("%d: Core: %d bytes, %x, %v", i, len(b), digest, e)
		}
		b, e = frame.Encode(f)
		digest = sha256.Sum256(b)
		if len(b) != x.size || hex.EncodeToString(digest[:]) != x.whole || e != api.OK {
			t.Errorf("%d: Encode: %d bytes, %x, %v", i, len(b), digest, e)
		}
		if got, e := frame.Decode(b); !sameFrame(got, f) || e != api.OK {
			t.Errorf("%d: Decode: %v %v", i, got, e)
		}
	}
}

// TestBytesOfEachSize: at each number, and each size of a Box.
func TestBytesOfEachSize(t *testing.T) {
	for n := 1; n <= 1000; n++ {
		f := some(int64(n), 64+n%201)
		f.Index, f.Ack = uint32(n), uint32(1000-n)
		if b, e := frame.Core(f); !bytes.Equal(b, plainCore(f)) || e != api.OK {
			t.Errorf("%d: Core: %x %v", n, b, e)
		}
		if b, e := frame.Encode(f); !bytes.Equal(b, plainEncode(f)) || e != api.OK {
			t.Errorf("%d: Encode: %x %v", n, b, e)
		}
	}
}

// TestCoreLeavesSignAlone: what Sign has is neither wrong nor written.
func TestCoreLeavesSignAlone(t *testing.T) {
	f := some(4, 100)
	want := plainCore(f)
	for _, n := range signs {
		f.Sign = keys(int64(n), n)
		if b, e := frame.Core(f); !bytes.Equal(b, want) || e != api.OK {
			t.Errorf("%d: %x %v", n, b, e)
		}
	}
}

// TestEncodeBeginsWithCore: whatever is signed is all that is sent but for the signature.
func TestEncodeBeginsWithCore(t *testing.T) {
	f := some(5, 264)
	whole, _ := frame.Encode(f)
	core, _ := frame.Core(f)
	if !bytes.Equal(whole, append(core, plainKeys(f.Sign...)...)) {
		t.Errorf("%x, behind %x", whole, core)
	}
}

// TestWritingKeepsNothing: R5: the frame is not changed, and what is answered shares nothing.
func TestWritingKeepsNothing(t *testing.T) {
	f := some(6, 70)
	was := copied(f)
	frame.Check(f)
	for _, write := range []func(api.Frame) ([]byte, api.Errno){frame.Core, frame.Encode} {
		b, _ := write(f)
		want := slices.Clone(b)
		clear(b[:cap(b)])
		if !sameFrame(f, was) {
			t.Errorf("changed: %v", f)
		}
		if again, e := write(f); !bytes.Equal(again, want) || e != api.OK {
			t.Errorf("%x %v, want %x", again, e, want)
		}
	}
}
