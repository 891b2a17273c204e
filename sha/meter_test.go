package sha_test

import (
	"bytes"
	"crypto/sha256"
	"encoding/binary"
	"slices"
	"sync"
	"testing"

	"cablegram/api"
	"cablegram/sha"
)

func sameLists(a, b [][]byte) bool { return slices.EqualFunc(a, b, bytes.Equal) }

// B4

func TestMeterThatKeeps(t *testing.T) {
	m := sha.New(true)
	if m.Count() != 0 || len(m.Inputs()) != 0 {
		t.Error("new:", m.Count(), m.Inputs())
	}
	var want [][]byte
	for i, l := range [][][]byte{
		{[]byte("z")},
		{[]byte("a"), []byte("bc")},
		nil,
		{nil, {}},
		{[]byte("abc")},
		{[]byte("ab"), nil, []byte("c")},
		{noise(1, 64), noise(2, 64)},
		{[]byte("a")},
	} {
		m.Sum(l...)
		want = append(want, bytes.Join(l, nil))
		if m.Count() != i+1 {
			t.Errorf("behind %d Sums: Count %d", i+1, m.Count())
		}
		if got := m.Inputs(); !sameLists(got, want) {
			t.Errorf("behind %d Sums: %q, want %q", i+1, got, want)
		}
	}
}

func TestMeterThatDoesNotKeep(t *testing.T) {
	var zero sha.Meter
	for name, m := range map[string]*sha.Meter{"New(false)": sha.New(false), "zero": &zero} {
		for i := range 5 {
			m.Sum([]byte("abc"), []byte{byte(i)})
			if m.Count() != i+1 || len(m.Inputs()) != 0 {
				t.Error(name, i, m.Count(), m.Inputs())
			}
		}
		if a, b, found := m.Alike(); len(a) != 0 || len(b) != 0 || found {
			t.Error(name, a, b, found)
		}
	}
}

func TestNilMeter(t *testing.T) {
	var m *sha.Meter
	for range 3 {
		if got := m.Sum([]byte("a"), []byte("bc")); got != api.Key(sha256.Sum256([]byte("abc"))) {
			t.Errorf("%x", got)
		}
		if m.Count() != 0 || len(m.Inputs()) != 0 {
			t.Error(m.Count(), m.Inputs())
		}
		if a, b, found := m.Alike(); len(a) != 0 || len(b) != 0 || found {
			t.Error(a, b, found)
		}
	}
}

// TestOnlySumsAreCounted: what else reckons with blocks, or asks, makes no Sum.
func TestOnlySumsAreCounted(t *testing.T) {
	m := sha.New(true)
	m.Sum([]byte("one"))
	m.Sum([]byte("two"))
	for range 3 {
		m.Count()
		m.Inputs()
		m.Alike()
		sha.Pad(3)
		sha.Block(begin, [64]byte{})
		sha.New(true).Sum([]byte("by another one"))
	}
	if got := m.Inputs(); m.Count() != 2 || !sameLists(got, [][]byte{[]byte("one"), []byte("two")}) {
		t.Errorf("%d %q", m.Count(), got)
	}
}

func TestSameInputTwice(t *testing.T) {
	m := sha.New(true)
	first := m.Sum([]byte("abc"))
	if again := m.Sum([]byte("abc")); again != first {
		t.Errorf("%x, then %x", first, again)
	}
	if got := m.Inputs(); m.Count() != 2 || !sameLists(got, [][]byte{[]byte("abc"), []byte("abc")}) {
		t.Errorf("%d %q", m.Count(), got)
	}
	if a, b, found := m.Alike(); len(a) != 0 || len(b) != 0 || found {
		t.Errorf("%q %q %v", a, b, found)
	}
}

// TestNoneAlike: what is cut otherwise is the same input; what is unlike has never been seen to have one digest.
func TestNoneAlike(t *testing.T) {
	m := sha.New(true)
	look := func(when string) {
		t.Helper()
		if a, b, found := m.Alike(); len(a) != 0 || len(b) != 0 || found {
			t.Errorf("%s: %q %q %v", when, a, b, found)
		}
	}
	look("new")
	m.Sum()
	look("of nothing")
	m.Sum(nil, []byte{})
	m.Sum([]byte("a"), []byte("bc"))
	m.Sum([]byte("ab"), []byte("c"))
	look("cut otherwise")
	for i := range 500 {
		m.Sum([]byte("abc"), make([]byte, i%100), []byte{byte(i % 7)})
	}
	look("many")
}

// TestMeterChangesNoDigest: what was counted and kept before is not in a digest.
func TestMeterChangesNoDigest(t *testing.T) {
	m := sha.New(true)
	for i := range 50 {
		b := noise(int64(i%5), 70)
		if got := m.Sum(b); got != api.Key(sha256.Sum256(b)) {
			t.Errorf("Sum %d: %x", i, got)
		}
	}
}

func TestMetersAreApart(t *testing.T) {
	a, b := sha.New(true), sha.New(true)
	a.Sum([]byte("a"))
	if a.Count() != 1 || b.Count() != 0 || len(b.Inputs()) != 0 {
		t.Error(a.Count(), b.Count(), b.Inputs())
	}
}

// A Meter may be used by several at once.

func TestMeterUsedBySeveral(t *testing.T) {
	const several, each = 16, 500
	input := func(who, i int) []byte {
		return binary.BigEndian.AppendUint32(binary.BigEndian.AppendUint32(nil, uint32(who)), uint32(i))
	}
	for _, keep := range []bool{false, true} {
		m := sha.New(keep)
		start := make(chan struct{})
		var all sync.WaitGroup
		for who := range several {
			all.Go(func() {
				<-start
				for i := range each {
					b := input(who, i)
					if got := m.Sum(b[:3], b[3:]); got != api.Key(sha256.Sum256(b)) {
						t.Errorf("%d, %d: %x", who, i, got)
					}
					if n := m.Count(); n < i+1 || n > several*each {
						t.Errorf("%d, %d: Count %d", who, i, n)
					}
					if i%100 == 0 {
						m.Inputs()
						m.Alike()
					}
				}
			})
		}
		close(start)
		all.Wait()
		if m.Count() != several*each {
			t.Errorf("keep %v: Count %d", keep, m.Count())
		}
		if !keep {
			continue
		}
		var next [several]int
		for _, b := range m.Inputs() {
			who := int(binary.BigEndian.Uint32(b))
			if !bytes.Equal(b, input(who, next[who])) {
				t.Fatalf("%x stands where number %d of %d should", b, next[who], who)
			}
			next[who]++
		}
		for who, n := range next {
			if n != each {
				t.Errorf("of %d: %d are kept", who, n)
			}
		}
	}
}

// R5: what is handed in is not changed; what is kept and answered is its own.

func TestSumChangesNothingHandedIn(t *testing.T) {
	room := bytes.Repeat([]byte{9}, 200)
	b := room[:3]
	more := [][]byte{b, []byte("d"), []byte("e"), []byte("f")}
	for _, m := range []*sha.Meter{nil, sha.New(false), sha.New(true)} {
		m.Sum(b)
		m.Sum(more[:1]...)
		m.Sum(more[:2]...)
	}
	if !bytes.Equal(room, bytes.Repeat([]byte{9}, 200)) {
		t.Error(room)
	}
	if !sameLists(more, [][]byte{{9, 9, 9}, []byte("d"), []byte("e"), []byte("f")}) {
		t.Error(more)
	}
}

func TestWhatIsKeptIsItsOwn(t *testing.T) {
	m := sha.New(true)
	one, two := []byte("one"), []byte("two")
	m.Sum(one)
	m.Sum(one, two)
	one[0], two[0] = 'X', 'X'
	want := [][]byte{[]byte("one"), []byte("onetwo")}
	got := m.Inputs()
	if !sameLists(got, want) {
		t.Errorf("%q", got)
	}
	for i := range got {
		for j := range got[i] {
			got[i][j] = 'X'
		}
		got[i] = nil
	}
	if got = m.Inputs(); !sameLists(got, want) {
		t.Errorf("an answer was changed: %q", got)
	}
	_ = append(got[:1], []byte("more"))
	m.Sum([]byte("three"))
	if got = m.Inputs(); !sameLists(got, append(want, []byte("three"))) {
		t.Errorf("an answer was added to: %q", got)
	}
}
