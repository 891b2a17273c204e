package draws_test

import (
	"bytes"
	"crypto/hmac"
	"crypto/sha256"
	"encoding/binary"
	"encoding/hex"
	"math"
	"math/big"
	"math/rand"
	"slices"
	"strings"
	"testing"

	"cablegram/api"
	"cablegram/draws"
	"cablegram/mac"
	"cablegram/sha"
)

const last = uint64(math.MaxUint64)

// steps is the key of bytes that begin at 0, each one more than the one ahead of it.
func steps() api.Key {
	var k api.Key
	for i := range k {
		k[i] = byte(i)
	}
	return k
}

func keys(seed int64, n int) []api.Key {
	r := rand.New(rand.NewSource(seed))
	l := make([]api.Key, n)
	for i := range l {
		r.Read(l[i][:])
	}
	return l
}

// seeds are some at the edges, and others.
func seeds() []api.Key {
	return append(keys(1, 3), api.Key{}, api.Key{1}, api.Key{31: 1}, steps(), api.Key(bytes.Repeat([]byte{255}, 32)))
}

// labels are some about the size that is cut, and of all kinds of bytes.
func labels() []string {
	return []string{
		"", "a", "b", "ab", "label", "\x00", "\x00\x00", "\xff", "käse", "a\x00\x00\x00\x08",
		strings.Repeat("x", 254), strings.Repeat("x", 255), strings.Repeat("x", 256), strings.Repeat("x", 255) + "y", strings.Repeat("x", 5000),
	}
}

// numbers are 0, those about each power of 2, and the last ones of which there is a draw.
func numbers() []uint64 {
	l := []uint64{0, 258, 0x0102030405060708, last - 2, last - 1}
	for bit := range 64 {
		l = append(l, 1<<bit-1, 1<<bit, 1<<bit+1)
	}
	slices.Sort(l)
	return slices.Compact(l)
}

// plain is a draw by the library's HMAC.
func plain(seed api.Key, n uint64, label string) api.Key {
	label = label[:min(len(label), 255)]
	info := append([]byte{byte(len(label))}, label...)
	info = append(info, 0, 0, 0, 8)
	info = binary.BigEndian.AppendUint64(info, n)
	h := hmac.New(sha256.New, seed[:])
	h.Write(append(info, 1))
	return api.Key(h.Sum(nil))
}

// digestsOfDraw is how many digests a draw needs: an inner one and an outer one.
const digestsOfDraw = 2

func next(t *testing.T, s *draws.Source, m *sha.Meter, label string) api.Key {
	t.Helper()
	k, e := s.Next(m, label)
	if e != api.OK {
		t.Fatal(s.N, e)
	}
	return k
}

func stands(t *testing.T, what any, s *draws.Source, seed api.Key, n uint64) {
	t.Helper()
	if s.Seed != seed || s.N != n {
		t.Errorf("%v: a Source of %x, %d, want %x, %d", what, s.Seed, s.N, seed, n)
	}
}

func TestExamples(t *testing.T) {
	s := &draws.Source{Seed: steps()}
	one, two := next(t, s, nil, "a"), next(t, s, nil, "a")
	if one == two {
		t.Errorf("twice %x", one)
	}
	stands(t, "a, a", s, steps(), 2)
	if e := s.Jump(1); e != api.ErrDraw {
		t.Error(e)
	}
	stands(t, "Jump(1)", s, steps(), 2)
}

// M1

// TestNextOfAnotherProgram holds draws against keys that another program made.
func TestNextOfAnotherProgram(t *testing.T) {
	for _, x := range []struct {
		n           uint64
		label, want string
	}{
		{0, "", "781b9ec315c1e79896e25f666f846cb20863c3dadeadc517363973920e390ce7"},
		{0, "a", "c48b4cc1ad76cf05ed8692616ad072989bbc45e0f6130d1ad3b4c5e20ec501e7"},
		{1, "a", "f0653f8343b58085915ccb44e061f54898911ab6026f6d1e76e7a27e7e9bde5f"},
		{258, "label", "6c5bcb6aea33e4e0b5e14f7734792067a50ee99374f0f907a9ed8374dbc68950"},
		{1 << 32, "chain", "d56f1b3cf6b0fca1b41bc2fec95ca0eb3fe815e1efe895d722cc83a5d5a9ebf9"},
		{1 << 63, "käse", "5b4c85523be23e69f0a1d42c4ea98267d36a29b9dde6a46ee086f1cc79e1ea62"},
		{last - 1, strings.Repeat("x", 255), "a50c401d6152fa309226afdf8956870a5259c3b92e3cf1638e544b0a07887fca"},
		{last - 1, strings.Repeat("x", 256) + "y", "a50c401d6152fa309226afdf8956870a5259c3b92e3cf1638e544b0a07887fca"},
	} {
		s := &draws.Source{Seed: steps(), N: x.n}
		if k := next(t, s, nil, x.label); hex.EncodeToString(k[:]) != x.want {
			t.Errorf("%d, %q: %x, want %s", x.n, x.label, k, x.want)
		}
		stands(t, x.n, s, steps(), x.n+1)
	}
}

// TestManyOfAnotherProgram holds a thousand draws, each for a longer label, against the digest of another program's.
func TestManyOfAnotherProgram(t *testing.T) {
	s := &draws.Source{Seed: steps()}
	h := sha256.New()
	for n := range 1000 {
		k := next(t, s, nil, strings.Repeat("z", n))
		h.Write(k[:])
	}
	if got := hex.EncodeToString(h.Sum(nil)); got != "9b6ba97675ee378969de4b23ee81b1c4b2c916cf2ab18ccb927ca4a2d327b6ed" {
		t.Error(got)
	}
}

func TestNext(t *testing.T) {
	for _, seed := range seeds() {
		for _, n := range numbers() {
			for _, label := range labels() {
				s := &draws.Source{Seed: seed, N: n}
				k, e := s.Next(nil, label)
				if want := plain(seed, n, label); k != want || e != api.OK {
					t.Errorf("%x, %d, %q: %x %v, want %x", seed, n, label, k, e, want)
				}
				stands(t, n, s, seed, n+1)
			}
		}
	}
}

// TestNextByMeters: a draw's digests are those of mac.Derive, and go to the Meter that is told.
func TestNextByMeters(t *testing.T) {
	for _, label := range labels() {
		told, other := sha.New(true), sha.New(true)
		s := &draws.Source{Seed: steps(), N: 77}
		want := mac.Derive(other, steps(), label, []byte{0, 0, 0, 0, 0, 0, 0, 77})
		if k := next(t, s, told, label); k != want {
			t.Errorf("%q: %x, want %x", label, k, want)
		}
		if told.Count() != digestsOfDraw || !slices.EqualFunc(told.Inputs(), other.Inputs(), bytes.Equal) {
			t.Errorf("%q: %x, want %x", label, told.Inputs(), other.Inputs())
		}
		for _, m := range []*sha.Meter{nil, sha.New(false), told} {
			s := &draws.Source{Seed: steps(), N: 77}
			if k := next(t, s, m, label); k != want {
				t.Errorf("%q by another Meter: %x, want %x", label, k, want)
			}
		}
	}
}

// TestNextOfNothingLeft: the greatest N has no draw, and stays.
func TestNextOfNothingLeft(t *testing.T) {
	for _, seed := range seeds() {
		m := sha.New(true)
		s := &draws.Source{Seed: seed, N: last - 1}
		next(t, s, m, "a")
		for range 3 {
			if k, e := s.Next(m, "a"); k != (api.Key{}) || e != api.ErrDraw {
				t.Errorf("%x: %x %v", seed, k, e)
			}
			stands(t, "nothing left", s, seed, last)
		}
		if m.Count() != digestsOfDraw {
			t.Errorf("%x: %d digests", seed, m.Count())
		}
	}
}

// TestZeroSource is that of the seed 0, from its first draw on.
func TestZeroSource(t *testing.T) {
	var s draws.Source
	for n := range uint64(3) {
		if k, want := next(t, &s, nil, "a"), plain(api.Key{}, n, "a"); k != want {
			t.Errorf("%d: %x, want %x", n, k, want)
		}
	}
}

// M2

// isSome holds what Some answers, and where the Source stands then, against a Next for each label.
func isSome(t *testing.T, s *draws.Source, l ...string) {
	t.Helper()
	by, m, other := *s, sha.New(true), sha.New(true)
	var want []api.Key
	for _, label := range l {
		want = append(want, next(t, &by, other, label))
	}
	got, e := s.Some(m, l...)
	if !slices.Equal(got, want) || e != api.OK {
		t.Errorf("%q: %x %v, want %x", l, got, e, want)
	}
	stands(t, l, s, by.Seed, by.N)
	if !slices.EqualFunc(m.Inputs(), other.Inputs(), bytes.Equal) {
		t.Errorf("%q: other digests than those of Next", l)
	}
}

// isNoSome: nothing is drawn, and no digest made.
func isNoSome(t *testing.T, s *draws.Source, l ...string) {
	t.Helper()
	seed, n, m := s.Seed, s.N, sha.New(true)
	if got, e := s.Some(m, l...); len(got) != 0 || e != api.ErrDraw {
		t.Errorf("%d, for %d labels: %d keys, %v", n, len(l), len(got), e)
	}
	stands(t, len(l), s, seed, n)
	if m.Count() != 0 {
		t.Errorf("%d, for %d labels: %d digests", n, len(l), m.Count())
	}
}

func TestSome(t *testing.T) {
	for _, seed := range seeds() {
		for _, n := range []uint64{0, 1, 254, 1<<32 - 2, 1<<63 - 1, last - 100} {
			s := &draws.Source{Seed: seed, N: n}
			isSome(t, s)
			isSome(t, s, "a")
			isSome(t, s, "a", "b", "a")
			isSome(t, s, "", "", "")
			isSome(t, s, labels()...)
			isSome(t, s, []string{}...)
			isSome(t, s, []string(nil)...)
		}
	}
}

// TestSomeInOrder: a draw's number is that of its place.
func TestSomeInOrder(t *testing.T) {
	var l []string
	for i := range 300 {
		l = append(l, strings.Repeat("l", i%7))
	}
	s := &draws.Source{Seed: steps(), N: 1000}
	got, e := s.Some(nil, l...)
	if len(got) != len(l) || e != api.OK {
		t.Fatal(len(got), e)
	}
	for i, k := range got {
		if want := plain(steps(), 1000+uint64(i), l[i]); k != want {
			t.Errorf("%d: %x, want %x", i, k, want)
		}
	}
	stands(t, "300", s, steps(), 1300)
}

// TestSomeAboutTheLast: as many as are left, and one more or many more, with which N would run over.
func TestSomeAboutTheLast(t *testing.T) {
	many := make([]string, 300)
	for left := range uint64(20) {
		for count := range 40 {
			s := &draws.Source{Seed: steps(), N: last - left}
			if uint64(count) <= left {
				isSome(t, s, many[:count]...)
			} else {
				isNoSome(t, s, many[:count]...)
				isSome(t, s, many[:left]...)
			}
		}
		isNoSome(t, &draws.Source{Seed: steps(), N: last - left}, many...)
	}
	isNoSome(t, &draws.Source{N: last - 299}, many...)
	isSome(t, &draws.Source{N: last - 300}, many...)
	isSome(t, &draws.Source{N: last})
}

// TestSomeSharesNothing: labels stay as they are, and what is answered is nobody else's.
func TestSomeSharesNothing(t *testing.T) {
	l := []string{"a", "b", "c"}
	s := &draws.Source{Seed: steps()}
	one, _ := s.Some(nil, l...)
	kept := slices.Clone(one)
	l[0], l[1] = "x", "y"
	two, _ := s.Some(nil, l...)
	if !slices.Equal(one, kept) {
		t.Error("a later call changed an answer")
	}
	clear(one)
	if slices.Contains(two, api.Key{}) {
		t.Error("two answers share a list")
	}
	if !slices.Equal(l, []string{"x", "y", "c"}) {
		t.Error(l)
	}
	if k := next(t, s, nil, "a"); k != plain(steps(), 6, "a") {
		t.Errorf("%x", k)
	}
}

func TestJump(t *testing.T) {
	for _, seed := range seeds()[:2] {
		for _, from := range append(numbers(), last) {
			for _, to := range append(numbers(), last) {
				s := &draws.Source{Seed: seed, N: from}
				want, n := api.OK, to
				if to < from {
					want, n = api.ErrDraw, from
				}
				if e := s.Jump(to); e != want {
					t.Errorf("from %d to %d: %v, want %v", from, to, e, want)
				}
				stands(t, to, s, seed, n)
			}
		}
	}
}

// TestDrawsBehindAJump are those that would have been there.
func TestDrawsBehindAJump(t *testing.T) {
	s := &draws.Source{Seed: steps()}
	next(t, s, nil, "a")
	for _, n := range []uint64{1, 2, 100, 100, 1 << 40, last - 1} {
		if e := s.Jump(max(n, s.N)); e != api.OK {
			t.Fatal(n, e)
		}
		at := s.N
		if e := s.Jump(at - 1); e != api.ErrDraw {
			t.Error(n, e)
		}
		if k, want := next(t, s, nil, "a"), plain(steps(), at, "a"); k != want {
			t.Errorf("%d: %x, want %x", at, k, want)
		}
	}
	if e := s.Jump(last); e != api.OK {
		t.Error(e)
	}
	isNoSome(t, s, "a")
	isSome(t, s)
}

// TestByChance holds Sources against a number that does not run over, at both ends.
func TestByChance(t *testing.T) {
	r := rand.New(rand.NewSource(13))
	limit := new(big.Int).SetUint64(last)
	for range 300 {
		from := uint64(r.Intn(4))
		if r.Intn(2) == 0 {
			from = last - uint64(r.Intn(60))
		}
		seed := keys(r.Int63(), 1)[0]
		s, n := &draws.Source{Seed: seed, N: from}, new(big.Int).SetUint64(from)
		for range 30 {
			switch r.Intn(4) {
			case 0:
				to := uint64(r.Intn(80))
				if r.Intn(2) == 0 {
					to = last - to
				}
				want := api.ErrDraw
				if by := new(big.Int).SetUint64(to); by.Cmp(n) >= 0 {
					want, n = api.OK, by
				}
				if e := s.Jump(to); e != want {
					t.Fatal(to, e, want)
				}
			case 1:
				at, label := n.Uint64(), labels()[r.Intn(len(labels()))]
				var want api.Key
				wantE := api.ErrDraw
				if n.Cmp(limit) < 0 {
					want, wantE = plain(seed, at, label), api.OK
					n = new(big.Int).Add(n, big.NewInt(1))
				}
				if k, e := s.Next(nil, label); k != want || e != wantE {
					t.Fatalf("%d: %x %v, want %x %v", at, k, e, want, wantE)
				}
			default:
				var l []string
				for range r.Intn(12) {
					l = append(l, labels()[r.Intn(len(labels()))])
				}
				by := new(big.Int).Add(n, big.NewInt(int64(len(l))))
				if by.Cmp(limit) > 0 {
					isNoSome(t, s, l...)
				} else {
					isSome(t, s, l...)
					n = by
				}
			}
			stands(t, "by chance", s, seed, n.Uint64())
		}
	}
}

// M3

// TestDrawsAreUnlike: whichever call they come of, and for whichever labels, those too that are cut to one.
func TestDrawsAreUnlike(t *testing.T) {
	seen, m := map[api.Key]bool{}, sha.New(true)
	drawn := func(l ...api.Key) {
		for _, k := range l {
			if seen[k] {
				t.Errorf("%x again", k)
			}
			seen[k] = true
		}
	}
	s := &draws.Source{Seed: steps()}
	long := strings.Repeat("x", 255)
	for i := range 50 {
		drawn(next(t, s, m, "a"), next(t, s, m, "a"), next(t, s, m, long), next(t, s, m, long+"y"))
		l, e := s.Some(m, labels()...)
		if e != api.OK {
			t.Fatal(e)
		}
		drawn(l...)
		if e := s.Jump(s.N << (i % 2)); e != api.OK {
			t.Fatal(e)
		}
	}
	if _, _, found := m.Alike(); found {
		t.Error("two inputs of one digest")
	}
}

// TestDrawsHangOnTheSeed: on each bit of it, and on the label.
func TestDrawsHangOnTheSeed(t *testing.T) {
	seen := map[api.Key]bool{}
	seed := keys(3, 1)[0]
	for bit := range 256 {
		other := seed
		other[bit/8] ^= 1 << (bit % 8)
		seen[next(t, &draws.Source{Seed: other, N: 5}, nil, "a")] = true
	}
	for _, label := range []string{"a", "b", "", "a\x00", "aa"} {
		seen[next(t, &draws.Source{Seed: seed, N: 5}, nil, label)] = true
	}
	if len(seen) != 261 {
		t.Errorf("%d keys", len(seen))
	}
}

// TestCopiesGoOnByThemselves: a Source is a value.
func TestCopiesGoOnByThemselves(t *testing.T) {
	s := draws.Source{Seed: steps(), N: 9}
	c := s
	one := next(t, &s, nil, "a")
	if e := s.Jump(100); e != api.OK {
		t.Error(e)
	}
	stands(t, "copy", &c, steps(), 9)
	if k := next(t, &c, nil, "a"); k != one {
		t.Errorf("%x, want %x", k, one)
	}
}

// R1

// TestNilSource has nothing to draw.
func TestNilSource(t *testing.T) {
	var s *draws.Source
	m := sha.New(true)
	if k, e := s.Next(m, "a"); k != (api.Key{}) || e != api.ErrDraw {
		t.Error(k, e)
	}
	if l, e := s.Some(m, "a"); len(l) != 0 || e != api.ErrDraw {
		t.Error(l, e)
	}
	if l, e := s.Some(m); len(l) != 0 || e != api.OK {
		t.Error(l, e)
	}
	for _, n := range []uint64{0, 1, last} {
		if e := s.Jump(n); e != api.ErrDraw {
			t.Error(n, e)
		}
	}
	if m.Count() != 0 {
		t.Error(m.Count())
	}
}
