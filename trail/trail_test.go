package trail_test

import (
	"bytes"
	"crypto/sha256"
	"encoding/binary"
	"encoding/hex"
	"math"
	"math/rand"
	"slices"
	"strings"
	"testing"

	"cablegram/api"
	"cablegram/sha"
	"cablegram/trail"
)

const last = uint32(math.MaxUint32)

// steps is the key of bytes that begin at 0, each one more than the one ahead of it.
func steps() api.Key {
	var k api.Key
	for i := range k {
		k[i] = byte(i)
	}
	return k
}

// noise is of the same bytes each time.
func noise(seed int64, n int) []byte {
	b := make([]byte, n)
	rand.New(rand.NewSource(seed)).Read(b)
	return b
}

// lists are some of none, of few, and of sizes about those at which something changes.
func lists() [][]byte {
	l := [][]byte{nil, {}, {0}, {1}, {255}, []byte("a"), []byte("b"), []byte("start"), []byte("next"), []byte("käse")}
	for _, n := range []int{7, 8, 9, 31, 32, 33, 55, 56, 63, 64, 65, 200, 255, 256, 257, 8000} {
		l = append(l, noise(int64(n), n))
	}
	return append(l, make([]byte, 65535), make([]byte, 65536))
}

// numbers are 0, those about each power of 2, and the last one.
func numbers() []uint32 {
	l := []uint32{0, 258, 0x01020304, last - 1, last}
	for bit := range 32 {
		l = append(l, 1<<bit-1, 1<<bit, 1<<bit+1)
	}
	slices.Sort(l)
	return slices.Compact(l)
}

// heads are some at the edges, and others.
func heads() []api.Key {
	return []api.Key{{}, {1}, {31: 1}, steps(), api.Key(bytes.Repeat([]byte{255}, 32)), api.Key(noise(14, 32))}
}

// startBytes and nextBytes are what N1 says that is digested.
func startBytes(one, two []byte) []byte {
	b := binary.BigEndian.AppendUint64([]byte("start"), uint64(len(one)))
	return append(append(b, one...), two...)
}

func nextBytes(t trail.Trail, frame []byte) []byte {
	b := binary.BigEndian.AppendUint64([]byte("next"), uint64(t.N))
	return append(append(b, t.Head[:]...), frame...)
}

// plain is a Next by the library's digest.
func plain(t trail.Trail, frame []byte) trail.Trail {
	return trail.Trail{Head: sha256.Sum256(nextBytes(t, frame)), N: t.N + 1}
}

func is(t *testing.T, what any, got, want trail.Trail) {
	t.Helper()
	if got != want {
		t.Errorf("%v: %x, %d, want %x, %d", what, got.Head, got.N, want.Head, want.N)
	}
}

// digested asks that a Meter that keeps has made just these digests.
func digested(t *testing.T, what any, m *sha.Meter, want ...[]byte) {
	t.Helper()
	if got := m.Inputs(); m.Count() != len(want) || !slices.EqualFunc(got, want, bytes.Equal) {
		t.Errorf("%v: %d digests of %.80q, want %.80q", what, m.Count(), got, want)
	}
}

func TestExample(t *testing.T) {
	one := trail.Start(nil, []byte("one"), []byte("two"))
	all := one.All(nil, [][]byte{[]byte("a"), []byte("b")})
	is(t, "a, b", all, one.Next(nil, []byte("a")).Next(nil, []byte("b")))
	if all.N != 2 {
		t.Error(all.N)
	}
}

// N1

// TestStartOfAnotherProgram holds heads against those that another program made.
func TestStartOfAnotherProgram(t *testing.T) {
	for _, x := range []struct{ one, two, want string }{
		{"", "", "fead63c6b9a3b3b63b8fa13fa4109a329f5890747a33f2384fa35910f0c0447b"},
		{"ab", "c", "7e74883d92ad2ed4f537a28ea8572c9ee645915d78a3d8f602674d58d9a71a68"},
		{"a", "bc", "c783d7ca9d97dae2d0cf149e92b526321fcc0b01ad8ea2ad1d16687021854816"},
		{"abc", "", "e8444d027ab3efa959fa9b4fea5ef3f2358ecfcc1f1290df9192dc55d4b4af07"},
		{strings.Repeat("x", 300), strings.Repeat("y", 70000), "fdeda238b10163261b9bc1b54b4389624f7197f064752f5d41ae18a13722f25c"},
		{strings.Repeat("x", 65536), strings.Repeat("\x00", 63), "b0e9dc5f9825fa25118586c0cfba6a20491d2c34db2799eea914f945a115f0bd"},
	} {
		s := trail.Start(nil, []byte(x.one), []byte(x.two))
		if hex.EncodeToString(s.Head[:]) != x.want || s.N != 0 {
			t.Errorf("%.8q %.8q: %x, %d, want %s", x.one, x.two, s.Head, s.N, x.want)
		}
	}
}

// TestNextOfAnotherProgram likewise.
func TestNextOfAnotherProgram(t *testing.T) {
	for _, x := range []struct {
		from  trail.Trail
		frame string
		want  string
		n     uint32
	}{
		{trail.Trail{}, "", "b8e140226a433d2fee061dc719dde77cad504b1097c25c1dcacf62d62fb6b084", 1},
		{trail.Trail{Head: steps()}, "hello", "b6a9c803cb53fc5ce60af9fc04da24b5b6c2e556bc23cf5c3c29c82a956265b0", 1},
		{trail.Trail{Head: steps(), N: 1}, "hello", "fd82f425ec783c217a04ca22812c4a54d510b1b3cabcaca911aa5ed2fb6604f8", 2},
		{trail.Trail{Head: steps(), N: 258}, "käse", "030dc5d9eda44d577bbdab486be50ebef83ff410971034bcc7178e2c9b17bbba", 259},
		{trail.Trail{Head: steps(), N: 1 << 31}, strings.Repeat("z", 64), "f7d640ed3d0d912f7fddb9a065dcdf497a3506a45eb25898f6dca4dad60aaae4", 1<<31 + 1},
		{trail.Trail{Head: steps(), N: last}, strings.Repeat("z", 8000), "1cc37e415481949ff0cbea95f343f2faa5c411bcb092318496c12cf94a7c5985", 0},
	} {
		s := x.from.Next(nil, []byte(x.frame))
		if hex.EncodeToString(s.Head[:]) != x.want || s.N != x.n {
			t.Errorf("%d, %.8q: %x, %d, want %s, %d", x.from.N, x.frame, s.Head, s.N, x.want, x.n)
		}
	}
}

// TestManyOfAnotherProgram: a thousand frames, each longer than the one ahead of it.
func TestManyOfAnotherProgram(t *testing.T) {
	var l [][]byte
	for n := range 1000 {
		l = append(l, bytes.Repeat([]byte("z"), n))
	}
	s := trail.Start(nil, []byte("one"), []byte("two")).All(nil, l)
	if hex.EncodeToString(s.Head[:]) != "3bfc316314b652b9a03e811aee412d9669147430ceac4f72a8c0ea637d17e93d" || s.N != 1000 {
		t.Errorf("%x, %d", s.Head, s.N)
	}
}

func TestStart(t *testing.T) {
	for _, one := range lists() {
		for _, two := range lists() {
			b := startBytes(one, two)
			is(t, len(b), trail.Start(nil, one, two), trail.Trail{Head: sha256.Sum256(b)})
		}
	}
}

// TestStartOfMany: how many bytes one has is told by more than three bytes.
func TestStartOfMany(t *testing.T) {
	one, two := make([]byte, 1<<24+1), []byte("two")
	is(t, len(one), trail.Start(nil, one, two), trail.Trail{Head: sha256.Sum256(startBytes(one, two))})
}

func TestNext(t *testing.T) {
	for _, head := range heads() {
		for _, n := range numbers() {
			for _, b := range lists()[:14] {
				s := trail.Trail{Head: head, N: n}
				is(t, n, s.Next(nil, b), plain(s, b))
				is(t, "the old one", s, trail.Trail{Head: head, N: n})
			}
		}
		for _, b := range lists() {
			s := trail.Trail{Head: head, N: 77}
			is(t, len(b), s.Next(nil, b), plain(s, b))
		}
	}
}

// TestNumberRunsOver: with some at once, too.
func TestNumberRunsOver(t *testing.T) {
	s := trail.Trail{Head: steps(), N: last - 2}
	want := s
	for i, n := range []uint32{last - 1, last, 0, 1, 2} {
		b := []byte{byte(i)}
		want = plain(want, b)
		s = s.Next(nil, b)
		is(t, n, s, want)
		if s.N != n {
			t.Errorf("%d, want %d", s.N, n)
		}
	}
	l := [][]byte{{0}, {1}, {2}, {3}, {4}}
	is(t, "all", trail.Trail{Head: steps(), N: last - 2}.All(nil, l), want)
}

func TestAll(t *testing.T) {
	for _, from := range []trail.Trail{{}, trail.Start(nil, nil, nil), {Head: steps(), N: 5}, {Head: steps(), N: last - 3}} {
		l := lists()
		want := from
		for i := range len(l) + 1 {
			is(t, i, from.All(nil, l[:i]), want)
			if i < len(l) {
				want = plain(want, l[i])
			}
		}
		is(t, "nil", from.All(nil, nil), from)
		is(t, "empty", from.All(nil, [][]byte{}), from)
		is(t, "one nil", from.All(nil, [][]byte{nil}), plain(from, nil))
	}
}

// TestAllInTwo: what is gone on with in two calls is gone on with in one.
func TestAllInTwo(t *testing.T) {
	from, l := trail.Start(nil, []byte("one"), nil), lists()
	all := from.All(nil, l)
	for i := range len(l) + 1 {
		is(t, i, from.All(nil, l[:i]).All(nil, l[i:]), all)
	}
}

// TestMeters: one digest each, that goes to the Meter that is told; none of no frames.
func TestMeters(t *testing.T) {
	for _, one := range lists()[:14] {
		m := sha.New(true)
		s := trail.Start(m, one, []byte("two"))
		digested(t, "start", m, startBytes(one, []byte("two")))
		m = sha.New(true)
		s.Next(m, one)
		digested(t, "next", m, nextBytes(s, one))
		for _, other := range []*sha.Meter{nil, sha.New(false)} {
			is(t, "start by another Meter", trail.Start(other, one, []byte("two")), s)
			is(t, "next by another Meter", s.Next(other, one), s.Next(m, one))
		}
	}
	m := sha.New(true)
	s := trail.Trail{Head: steps(), N: 3}
	s.All(m, nil)
	digested(t, "all of none", m)
	a, b := []byte("a"), []byte("b")
	s.All(m, [][]byte{a, b, a})
	two := plain(s, a)
	digested(t, "all", m, nextBytes(s, a), nextBytes(two, b), nextBytes(plain(two, b), a))
}

// TestListsStay: what is handed in is not changed, nor looked at later.
func TestListsStay(t *testing.T) {
	room := append(make([]byte, 0, 100), "one"...)
	s := trail.Start(nil, room, []byte("two"))
	l := [][]byte{room, room[:1], []byte("x")}
	one := s.All(nil, l)
	if !bytes.Equal(room[:100], append([]byte("one"), make([]byte, 97)...)) || string(l[1]) != "o" || len(l) != 3 {
		t.Errorf("%q", room[:100])
	}
	again := s
	clear(room)
	l[2][0] = 'y'
	is(t, "the start", s, again)
	if s.All(nil, l) == one {
		t.Error("another list, and the same trail")
	}
}

// N3

// TestTrailsAreUnlike: of one start, as many frames, of which something is unlike.
func TestTrailsAreUnlike(t *testing.T) {
	m := sha.New(true)
	start := trail.Start(m, []byte("one"), []byte("two"))
	seen := map[api.Key]int{}
	add := func(l ...string) {
		var frames [][]byte
		for _, x := range l {
			frames = append(frames, []byte(x))
		}
		s := start.All(m, frames)
		if s.N != uint32(len(l)) {
			t.Errorf("%q: %d", l, s.N)
		}
		seen[s.Head]++
	}
	told := [][]string{
		{}, {""}, {"", ""}, {"", "", ""}, {"abc"}, {"abc", "", ""}, {"", "abc", ""}, {"", "", "abc"},
		{"a", "bc", ""}, {"ab", "c", ""}, {"a", "b", "c"}, {"a", "c", "b"}, {"b", "a", "c"}, {"c", "b", "a"}, {"a", "b", "b"},
	}
	for _, l := range told {
		add(l...)
	}
	// One bit, in whichever frame; what comes behind does not bring them together again.
	frame := noise(3, 40)
	for at := range 3 {
		for bit := range 8 * len(frame) {
			other := slices.Clone(frame)
			other[bit/8] ^= 1 << (bit % 8)
			l := []string{"x", "y", "z", "behind"}
			l[at] = string(other)
			add(l...)
		}
	}
	if want := len(told) + 3*8*len(frame); len(seen) != want {
		t.Errorf("%d heads, want %d", len(seen), want)
	}
	if _, _, found := m.Alike(); found {
		t.Error("two inputs of one digest")
	}
}

// TestStartsAreUnlike: however the same bytes are cut, and none is another's Next.
func TestStartsAreUnlike(t *testing.T) {
	seen := map[api.Key]bool{}
	b := noise(9, 300)
	for i := range len(b) + 1 {
		seen[trail.Start(nil, b[:i], b[i:]).Head] = true
	}
	seen[trail.Start(nil, b, b).Head] = true
	seen[trail.Start(nil, nil, nil).Head] = true
	seen[trail.Trail{}.Next(nil, nil).Head] = true
	seen[trail.Trail{}.Head] = true
	if len(seen) != len(b)+5 {
		t.Errorf("%d heads", len(seen))
	}
}

// TestNextHangsOnAll: on each bit of the head, and on the number.
func TestNextHangsOnAll(t *testing.T) {
	seen := map[api.Key]bool{}
	for bit := range 256 {
		head := steps()
		head[bit/8] ^= 1 << (bit % 8)
		seen[trail.Trail{Head: head, N: 5}.Next(nil, []byte("a")).Head] = true
	}
	for bit := range 32 {
		seen[trail.Trail{Head: steps(), N: 1 << bit}.Next(nil, []byte("a")).Head] = true
	}
	if len(seen) != 288 {
		t.Errorf("%d heads", len(seen))
	}
}
