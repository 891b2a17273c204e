package trail_test

import (
	"crypto/sha256"
	"encoding/binary"
	"math/rand"
	"slices"
	"testing"

	"cablegram/api"
	"cablegram/trail"
)

// numbered is a trail whose head is its own number's.
func numbered(n uint32) trail.Trail {
	return trail.Trail{Head: sha256.Sum256(binary.BigEndian.AppendUint32(nil, n)), N: n}
}

// pastOf has count trails, from a number on.
func pastOf(t *testing.T, from uint32, count int) *trail.Past {
	t.Helper()
	p := &trail.Past{}
	for i := range count {
		if e := p.Add(numbered(from + uint32(i))); e != api.OK {
			t.Fatal(from, i, e)
		}
	}
	return p
}

// run are trails one behind the other.
func run(from uint32, count int) []trail.Trail {
	var l []trail.Trail
	for i := range count {
		l = append(l, numbered(from+uint32(i)))
	}
	return l
}

// has asks all that a Past tells.
func has(t *testing.T, what any, p *trail.Past, want []trail.Trail) {
	t.Helper()
	first := uint32(0)
	if len(want) > 0 {
		first = want[0].N
	}
	if p.Len() != len(want) || p.First() != first {
		t.Errorf("%v: %d from %d on, want %d from %d on", what, p.Len(), p.First(), len(want), first)
	}
	if got := p.Trails(); !slices.Equal(got, want) {
		t.Errorf("%v: %v, want %v", what, got, want)
	}
	for _, x := range want {
		if k, e := p.Find(x.N); k != x.Head || e != api.OK {
			t.Errorf("%v: Find(%d): %x %v, want %x", what, x.N, k, e, x.Head)
		}
	}
	behind := first + uint32(len(want))
	for _, n := range []uint32{first - 1, first - 2, first - 64, behind, behind + 1, behind + 63, first + 1<<31, first + 1<<16} {
		if k, e := p.Find(n); k != (api.Key{}) || e != api.ErrNone {
			t.Errorf("%v: Find(%d): %x %v", what, n, k, e)
		}
	}
}

func TestPastExample(t *testing.T) {
	p := pastOf(t, 0, 3)
	if k, e := p.Find(1); k != numbered(1).Head || e != api.OK {
		t.Errorf("%x %v", k, e)
	}
	p.Forget(2)
	if k, e := p.Find(1); k != (api.Key{}) || e != api.ErrNone || p.First() != 2 {
		t.Errorf("%x %v %d", k, e, p.First())
	}
}

// N2

func TestEmptyPast(t *testing.T) {
	p := &trail.Past{}
	has(t, "new", p, nil)
	if k, e := p.Find(0); k != (api.Key{}) || e != api.ErrNone {
		t.Errorf("%x %v", k, e)
	}
	for _, n := range []uint32{0, 1, last} {
		p.Forget(n)
		has(t, n, p, nil)
	}
}

// firsts are numbers from which some go on, over the greatest one too.
func firsts() []uint32 {
	return []uint32{0, 1, 5, 1000, 1<<31 - 2, last - 100, last - 63, last - 62, last - 30, last - 1, last}
}

// TestAdd: the first one has any number, each of the others one that goes on.
func TestAdd(t *testing.T) {
	for _, from := range firsts() {
		p := &trail.Past{}
		for i := range 64 {
			if e := p.Add(numbered(from + uint32(i))); e != api.OK {
				t.Fatal(from, i, e)
			}
			has(t, from, p, run(from, i+1))
		}
	}
	for _, n := range numbers() {
		has(t, n, pastOf(t, n, 1), run(n, 1))
	}
}

// TestAddOfWrongNumbers changes nothing.
func TestAddOfWrongNumbers(t *testing.T) {
	for _, from := range firsts() {
		for _, count := range []int{1, 2, 3, 63} {
			p, next := pastOf(t, from, count), from+uint32(count)
			wrong := append(numbers(), next-1, next-2, next+1, next+2, next+64, from, from-1, next^1<<31, next^1<<16, next^1<<8)
			for _, n := range wrong {
				if n == next {
					continue
				}
				if e := p.Add(numbered(n)); e != api.ErrArg {
					t.Errorf("%d behind %d: %v", n, next-1, e)
				}
			}
			has(t, from, p, run(from, count))
			if e := p.Add(numbered(next)); e != api.OK {
				t.Errorf("%d behind %d: %v", next, next-1, e)
			}
		}
	}
}

// TestAddOfFull: whichever number comes, ErrFull stands ahead of ErrArg.
func TestAddOfFull(t *testing.T) {
	for _, from := range firsts() {
		p := pastOf(t, from, 64)
		for _, n := range append(numbers(), from+64, from+65, from+63, from) {
			if e := p.Add(numbered(n)); e != api.ErrFull {
				t.Errorf("%d behind %d: %v", n, from+63, e)
			}
		}
		has(t, from, p, run(from, 64))
	}
}

// TestRoomBehindForget: what was forgotten is made room of, as often as that is done.
func TestRoomBehindForget(t *testing.T) {
	p := pastOf(t, 0, 64)
	for n := uint32(64); n < 1000; n++ {
		if e := p.Add(numbered(n)); e != api.ErrFull {
			t.Fatal(n, e)
		}
		p.Forget(n - 63)
		if e := p.Add(numbered(n)); e != api.OK {
			t.Fatal(n, e)
		}
		has(t, n, p, run(n-63, 64))
	}
}

// TestForget: all below the number go, but the last one.
func TestForget(t *testing.T) {
	for _, from := range []uint32{0, 1, 5, 1000, 1 << 31, last - 100, last - 63} {
		for _, count := range []int{1, 2, 3, 10, 64} {
			for gone := range count + 3 {
				n := uint64(from) + uint64(gone)
				if n > uint64(last) {
					continue
				}
				p := pastOf(t, from, count)
				p.Forget(uint32(n))
				gone := min(gone, count-1)
				has(t, n, p, run(from+uint32(gone), count-gone))
				p.Forget(uint32(n))
				has(t, "twice", p, run(from+uint32(gone), count-gone))
			}
			p := pastOf(t, from, count)
			for _, n := range []uint32{0, from / 2, from} {
				p.Forget(n)
				has(t, n, p, run(from, count))
			}
			p.Forget(last)
			gone := min(int(last-from), count-1)
			has(t, "all", p, run(from+uint32(gone), count-gone))
		}
	}
}

// TestForgetOverTheGreatest: those behind the greatest number are below it, but it stands ahead of them.
func TestForgetOverTheGreatest(t *testing.T) {
	for _, x := range []struct {
		n    uint32
		gone int
	}{{0, 0}, {1, 0}, {2, 0}, {100, 0}, {last - 3, 0}, {last - 2, 0}, {last - 1, 1}, {last, 2}} {
		p := pastOf(t, last-2, 8)
		p.Forget(x.n)
		has(t, x.n, p, run(last-2+uint32(x.gone), 8-x.gone))
	}
	p := pastOf(t, last, 4)
	p.Forget(last)
	has(t, "from the greatest on", p, run(last, 4))
	p = pastOf(t, 0, 4)
	p.Forget(last)
	has(t, "from 0 on", p, run(3, 1))
}

// TestAddBehindTheLastOne: it stays, so that what is added goes on from it.
func TestAddBehindTheLastOne(t *testing.T) {
	p := pastOf(t, 5, 3)
	p.Forget(last)
	for _, n := range []uint32{0, 5, 6, 7, 9} {
		if e := p.Add(numbered(n)); e != api.ErrArg {
			t.Error(n, e)
		}
	}
	if e := p.Add(numbered(8)); e != api.OK {
		t.Error(e)
	}
	has(t, "behind", p, run(7, 2))
}

// TestHeadsAreNotAsked: a trail is added by its number alone.
func TestHeadsAreNotAsked(t *testing.T) {
	p := &trail.Past{}
	for n := range uint32(5) {
		if e := p.Add(trail.Trail{N: n}); e != api.OK {
			t.Error(n, e)
		}
	}
	if k, e := p.Find(4); k != (api.Key{}) || e != api.OK || p.Len() != 5 {
		t.Error(k, e, p.Len())
	}
}

// TestTrailsAreTheirOwn: whoever changes them changes nothing that the Past has, nor what it answered before.
func TestTrailsAreTheirOwn(t *testing.T) {
	p := pastOf(t, 3, 10)
	one, two := p.Trails(), p.Trails()
	clear(one)
	one = append(one[:0], numbered(99))
	has(t, "cleared", p, run(3, 10))
	p.Forget(8)
	if e := p.Add(numbered(13)); e != api.OK {
		t.Error(e)
	}
	if !slices.Equal(two, run(3, 10)) || one[0].N != 99 {
		t.Error("a later call changed an answer")
	}
}

// TestPastsGoOnByThemselves: a Past is a value.
func TestPastsGoOnByThemselves(t *testing.T) {
	p := *pastOf(t, 0, 10)
	c := p
	p.Forget(5)
	if e := p.Add(numbered(10)); e != api.OK {
		t.Error(e)
	}
	has(t, "copy", &c, run(0, 10))
	other := trail.Trail{N: 10}
	if e := c.Add(other); e != api.OK {
		t.Error(e)
	}
	has(t, "first", &p, run(5, 6))
	has(t, "second", &c, append(run(0, 10), other))
}

// TestPastByChance holds Pasts against a list, with numbers about the first and the last ones, and the greatest.
func TestPastByChance(t *testing.T) {
	r := rand.New(rand.NewSource(14))
	for range 300 {
		p, l := &trail.Past{}, []trail.Trail(nil)
		near := firsts()[r.Intn(len(firsts()))]
		for range 200 {
			n := near + uint32(r.Intn(9)) - 4
			if len(l) > 0 && r.Intn(5) > 0 {
				n = []uint32{l[0].N, l[len(l)-1].N}[r.Intn(2)] + uint32(r.Intn(9)) - 3
			}
			if r.Intn(20) == 0 {
				p.Forget(n)
				for len(l) > 1 && l[0].N < n {
					l = l[1:]
				}
			} else {
				if len(l) > 0 && r.Intn(3) > 0 {
					n = l[len(l)-1].N + 1
				}
				want := api.OK
				switch {
				case len(l) == 64:
					want = api.ErrFull
				case len(l) > 0 && n != l[len(l)-1].N+1:
					want = api.ErrArg
				default:
					l = append(l, numbered(n))
				}
				if e := p.Add(numbered(n)); e != want {
					t.Fatalf("Add(%d): %v, want %v", n, e, want)
				}
			}
			has(t, "by chance", p, l)
			if t.Failed() {
				return
			}
		}
	}
}

// R1

// TestNilPast has nothing, and keeps nothing.
func TestNilPast(t *testing.T) {
	var p *trail.Past
	for _, n := range []uint32{0, 1, last} {
		if e := p.Add(numbered(n)); e != api.ErrFull {
			t.Error(n, e)
		}
		p.Forget(n)
	}
	has(t, "nil", p, nil)
}
