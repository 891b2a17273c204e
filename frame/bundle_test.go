package frame_test

import (
	"bytes"
	"crypto/sha256"
	"encoding/hex"
	"slices"
	"testing"

	"cablegram/api"
	"cablegram/frame"
)

func someBundle(seed int64) api.Bundle {
	k := keys(seed, 4)
	return api.Bundle{Chain: k[0], Epoch: k[1], Sign: k[2], Noise: k[3]}
}

// plainBundle is J4 by the library.
func plainBundle(x api.Bundle) []byte {
	return append([]byte{2}, plainKeys(x.Chain, x.Epoch, x.Sign, x.Noise)...)
}

// refusedBundle asks that the bytes are no bundle, and that nothing is told beside the error.
func refusedBundle(t *testing.T, what any, b []byte, want api.Errno) {
	t.Helper()
	if x, e := frame.DecodeBundle(b); x != (api.Bundle{}) || e != want {
		t.Errorf("%v: %x %v, want %v", what, x, e, want)
	}
}

// J4

func TestBundles(t *testing.T) {
	same := api.Key(bytes.Repeat([]byte{255}, 32))
	for i, x := range []api.Bundle{{}, someBundle(1), someBundle(2), {Noise: same}, {Chain: same}, {Chain: same, Epoch: same, Sign: same, Noise: same}} {
		b := frame.EncodeBundle(x)
		if !bytes.Equal(b, plainBundle(x)) {
			t.Errorf("%d: %x", i, b)
		}
		if got, e := frame.DecodeBundle(b); got != x || e != api.OK {
			t.Errorf("%d: %x %v", i, got, e)
		}
	}
}

// TestBundleAsAnotherProgram: the digest of the bytes is another program's, of the chapter's words.
func TestBundleAsAnotherProgram(t *testing.T) {
	x := api.Bundle{Chain: api.Key(steps(3, 32)), Epoch: api.Key(steps(5, 32)), Sign: api.Key(steps(7, 32)), Noise: api.Key(steps(11, 32))}
	b := frame.EncodeBundle(x)
	digest := sha256.Sum256(b)
	if len(b) != 131 || hex.EncodeToString(digest[:]) != "f6dfe34391a972580b4d97a531a960297cc354b9380fda0207a3dc15d9cbd4f0" {
		t.Errorf("%d bytes, %x", len(b), digest)
	}
}

// TestDecodeBundleOfWrongSizes: cut short at each byte, and with bytes more. (Of how many bytes there are at most J4 names no error of its own.)
func TestDecodeBundleOfWrongSizes(t *testing.T) {
	b := plainBundle(someBundle(3))
	refusedBundle(t, "nil", nil, api.ErrShort)
	for n := range b {
		refusedBundle(t, n, b[:n], api.ErrShort)
	}
	for _, more := range []int{1, 2, 32, 131, 8000 - 131, 8001 - 131, 65536} {
		refusedBundle(t, more, append(slices.Clone(b), make([]byte, more)...), api.ErrTail)
	}
}

// TestDecodeBundleOfWrongParts: of bytes that are right but for what stands there; the first error is told.
func TestDecodeBundleOfWrongParts(t *testing.T) {
	b := plainBundle(someBundle(4))
	for mark := range 256 {
		if mark != 2 {
			wrong := append([]byte{byte(mark)}, b[1:]...)
			refusedBundle(t, mark, wrong, api.ErrShape)
			refusedBundle(t, mark, wrong[:130], api.ErrShort)
			refusedBundle(t, mark, append(wrong, 0), api.ErrTail)
		}
	}
	for _, mark := range []byte{1, 2} {
		for n := range 4 {
			few := append([]byte{mark}, plainKeys(keys(5, n)...)...)
			refusedBundle(t, n, few, api.ErrShape)
			refusedBundle(t, n, few[:len(few)-1], api.ErrShort)
			refusedBundle(t, n, append(few, 0), api.ErrTail)
		}
		for _, n := range []int{5, 6, 100, 101, 256, 256 + 4, 65535} {
			many := append([]byte{mark}, plainKeys(keys(6, n)...)...)
			refusedBundle(t, n, many, api.ErrLong)
			refusedBundle(t, n, many[:3], api.ErrLong)
		}
	}
}

// TestBundlesKeepNothing: R5: bytes are not changed, and each answer's are its own.
func TestBundlesKeepNothing(t *testing.T) {
	x := someBundle(7)
	b := frame.EncodeBundle(x)
	was := slices.Clone(b)
	got, _ := frame.DecodeBundle(b)
	if !bytes.Equal(b, was) {
		t.Errorf("changed: %x", b)
	}
	clear(b[:cap(b)])
	if again := frame.EncodeBundle(x); !bytes.Equal(again, was) || got != x {
		t.Errorf("changed: %x, %x", again, got)
	}
}

// J5

// TestOneWayToBeWritten: whatever bit is turned, what is still read is another one, that is written so.
func TestOneWayToBeWritten(t *testing.T) {
	f, x := some(9, 64), someBundle(9)
	b := plainEncode(f)
	read := 0
	for bit := range 8 * len(b) {
		b[bit/8] ^= 1 << (bit % 8)
		if got, e := frame.Decode(b); e == api.OK {
			read++
			if again, e := frame.Encode(got); sameFrame(got, f) || !bytes.Equal(again, b) || e != api.OK {
				t.Errorf("bit %d: %x %v, want %x", bit, again, e, b)
			}
		}
		b[bit/8] ^= 1 << (bit % 8)
	}
	if read < 8*(len(b)-15) { // all but the bits of the first byte, both numbers, and how many there are
		t.Errorf("%d were read", read)
	}
	b = plainBundle(x)
	for bit := range 8 * len(b) {
		b[bit/8] ^= 1 << (bit % 8)
		got, e := frame.DecodeBundle(b)
		if (e == api.OK) != (bit >= 8*3) || got == x {
			t.Errorf("bit %d: %x %v", bit, got, e)
		}
		if e == api.OK && !bytes.Equal(frame.EncodeBundle(got), b) {
			t.Errorf("bit %d: %x, want %x", bit, frame.EncodeBundle(got), b)
		}
		b[bit/8] ^= 1 << (bit % 8)
	}
}

// TestUnlikeAreWrittenUnlike: of frames, and of bundles, that are unlike in one part.
func TestUnlikeAreWrittenUnlike(t *testing.T) {
	seen := map[string]int{}
	for i, do := range []func(f *api.Frame){
		func(f *api.Frame) {},
		func(f *api.Frame) { f.Index++ }, func(f *api.Frame) { f.Ack++ },
		func(f *api.Frame) { f.Index, f.Ack = f.Ack, f.Index },
		func(f *api.Frame) { f.Eph[31]++ }, func(f *api.Frame) { f.Epoch[31]++ }, func(f *api.Frame) { f.Next[31]++ },
		func(f *api.Frame) { f.Eph, f.Epoch = f.Epoch, f.Eph }, func(f *api.Frame) { f.Epoch, f.Next = f.Next, f.Epoch },
		func(f *api.Frame) { f.Box[63]++ }, func(f *api.Frame) { f.Box = append(f.Box, 0) },
		func(f *api.Frame) { f.Sign[66][31]++ }, func(f *api.Frame) { f.Sign[0], f.Sign[66] = f.Sign[66], f.Sign[0] },
	} {
		f := some(10, 64)
		do(&f)
		b, e := frame.Encode(f)
		if was, there := seen[string(b)]; there || e != api.OK {
			t.Errorf("%d is as %d, %v", i, was, e)
		}
		seen[string(b)] = i
	}
	for i, do := range []func(x *api.Bundle){
		func(x *api.Bundle) {},
		func(x *api.Bundle) { x.Chain[31]++ }, func(x *api.Bundle) { x.Epoch[31]++ },
		func(x *api.Bundle) { x.Sign[31]++ }, func(x *api.Bundle) { x.Noise[31]++ },
		func(x *api.Bundle) { x.Chain, x.Epoch = x.Epoch, x.Chain }, func(x *api.Bundle) { x.Sign, x.Noise = x.Noise, x.Sign },
	} {
		x := someBundle(10)
		do(&x)
		b := frame.EncodeBundle(x)
		if was, there := seen[string(b)]; there {
			t.Errorf("%d is as %d", i, was)
		}
		seen[string(b)] = i
	}
}

// TestNoFrameIsABundle: nor the other way round, whatever their first byte is.
func TestNoFrameIsABundle(t *testing.T) {
	f, x := plainEncode(some(11, 64)), plainBundle(someBundle(11))
	refusedBundle(t, "a frame", f, api.ErrTail)
	refusedBundle(t, "a frame, as a bundle begins", append([]byte{2}, f[1:]...), api.ErrTail)
	refused(t, "a bundle", x, api.ErrLong)
	refused(t, "a bundle, as a frame begins", append([]byte{1}, x[1:]...), api.ErrLong)
	refusedBundle(t, "a frame's keys, as a bundle's", append([]byte{1}, x[1:]...), api.ErrShape)
}
