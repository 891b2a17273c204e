package seal_test

import (
	"bytes"
	"crypto/hkdf"
	"crypto/hmac"
	"crypto/sha256"
	"encoding/binary"
	"encoding/hex"
	"math/rand"
	"slices"
	"sync"
	"testing"

	"cablegram/api"
	"cablegram/mac"
	"cablegram/seal"
	"cablegram/sha"
	"cablegram/stream"
)

// noise is of the same bytes each time.
func noise(seed int64, n int) []byte {
	b := make([]byte, n)
	rand.New(rand.NewSource(seed)).Read(b)
	return b
}

func unhex(t *testing.T, s string) []byte {
	t.Helper()
	b, err := hex.DecodeString(s)
	if err != nil {
		t.Fatal(s, err)
	}
	return b
}

// steps is of n bytes, that begin at 0, each so much above the one ahead of it.
func steps(by byte, n int) []byte {
	b := make([]byte, n)
	for i := range b {
		b[i] = by * byte(i)
	}
	return b
}

func sameLists(a, b [][]byte) bool { return slices.EqualFunc(a, b, bytes.Equal) }

// meters has one of each kind.
func meters() []*sha.Meter { return []*sha.Meter{nil, sha.New(false), sha.New(true)} }

// plainDerive is C3's of a label alone, by the library.
func plainDerive(t *testing.T, key api.Key, label string) []byte {
	t.Helper()
	b, err := hkdf.Expand(sha256.New, key[:], string([]byte{byte(len(label))})+label, 32)
	if err != nil {
		t.Fatal(err)
	}
	return b
}

// plainTag is E1 by the library.
func plainTag(t *testing.T, key api.Key, aside, hidden []byte) api.Key {
	t.Helper()
	h := hmac.New(sha256.New, plainDerive(t, key, "tag"))
	h.Write(binary.BigEndian.AppendUint64(nil, uint64(len(aside))))
	h.Write(aside)
	h.Write(hidden)
	return api.Key(h.Sum(nil))
}

// plainSeal is E2, with keys and tag by the library.
func plainSeal(t *testing.T, key api.Key, aside, text []byte) []byte {
	t.Helper()
	hidden, e := stream.Mix(api.Key(plainDerive(t, key, "hide")), 0, [12]byte{}, text)
	if e != api.OK {
		t.Fatal(e)
	}
	tag := plainTag(t, key, aside, hidden)
	return slices.Concat(hidden, tag[:])
}

// sealed is what must be sealed without an error.
func sealed(t *testing.T, key api.Key, aside, text []byte) []byte {
	t.Helper()
	box, e := seal.Seal(nil, key, aside, text)
	if e != api.OK {
		t.Fatal(e)
	}
	return box
}

// sizes has some about those at which a block of a digest, or of the stream, is full.
func sizes() []int { return []int{0, 1, 2, 31, 32, 33, 55, 56, 63, 64, 65, 128, 200, 255, 256, 1000} }

// E1

func TestTag(t *testing.T) {
	for _, m := range meters() {
		for i, aside := range sizes() {
			for j, hidden := range sizes() {
				key := api.Key(noise(int64(100*i+j), 32))
				a, h := noise(1, aside), noise(2, hidden)
				if got, want := seal.Tag(m, key, a, h), plainTag(t, key, a, h); got != want {
					t.Errorf("%d aside, %d hidden: %x, want %x", aside, hidden, got, want)
				}
			}
		}
	}
}

// TestTagHasNoLimit: E1 names none, and more than one byte tells a size.
func TestTagHasNoLimit(t *testing.T) {
	key := api.Key(noise(3, 32))
	for _, n := range []int{3999, 4000, 4001, 4032, 4033, 65535, 65536, 1<<24 + 1<<16 + 1<<8 + 1} {
		long, short := make([]byte, n), []byte("short")
		if got, want := seal.Tag(nil, key, long, short), plainTag(t, key, long, short); got != want {
			t.Errorf("%d aside: %x, want %x", n, got, want)
		}
		if got, want := seal.Tag(nil, key, short, long), plainTag(t, key, short, long); got != want {
			t.Errorf("%d hidden: %x, want %x", n, got, want)
		}
	}
}

func TestTagOfNothing(t *testing.T) {
	key := api.Key(noise(4, 32))
	want := plainTag(t, key, nil, nil)
	for i, got := range []api.Key{seal.Tag(nil, key, nil, nil), seal.Tag(nil, key, []byte{}, nil), seal.Tag(nil, key, nil, []byte{}), seal.Tag(nil, key, []byte{}, []byte{})} {
		if got != want {
			t.Errorf("%d: %x, want %x", i, got, want)
		}
	}
}

// TestTagTellsWhereAsideEnds: the same bytes, cut anywhere.
func TestTagTellsWhereAsideEnds(t *testing.T) {
	b := make([]byte, 300)
	seen := map[api.Key]int{}
	for i := range len(b) + 1 {
		k := seal.Tag(nil, api.Key{1}, b[:i], b[i:])
		if at, ok := seen[k]; ok {
			t.Errorf("cut at %d and at %d: one tag", at, i)
		}
		seen[k] = i
	}
}

func TestTagIsOfItsDigestsAlone(t *testing.T) {
	key, aside, hidden := api.Key(noise(5, 32)), []byte("aside"), []byte("hidden")
	m, want := sha.New(true), sha.New(true)
	seal.Tag(m, key, aside, hidden)
	k := mac.Derive(want, key, "tag")
	mac.Sum(want, k[:], []byte{0, 0, 0, 0, 0, 0, 0, 5}, aside, hidden)
	if m.Count() != 4 || !sameLists(m.Inputs(), want.Inputs()) {
		t.Errorf("%d: %x, want %x", m.Count(), m.Inputs(), want.Inputs())
	}
}

// E2

// TestSealAsAnotherProgram: the boxes are another program's, of the chapter's words.
func TestSealAsAnotherProgram(t *testing.T) {
	counted, full := api.Key(steps(1, 32)), api.Key(bytes.Repeat([]byte{255}, 32))
	for i, x := range []struct {
		key         api.Key
		aside, text []byte
		want        string
	}{
		{counted, []byte("a"), []byte("hello"), "92339589c9209c75b36b541ca51091473fb74682d4a56f6e31f8756b8bd61b77452987aa4d"},
		{counted, nil, nil, "b32610e958fc8eb35e515642ac089c369f18fb76572ce8504363b05e2b6aaab1"},
		{api.Key{}, nil, nil, "453b7ff9c3df6cf22ff9148b4a657c83c0144291769622ba02986e506b1fd5f9"},
		{full, []byte("aside"), []byte("a text"), "15bd03604b715774caf16d679060d743cf46c087229c4785d7f77f8aaf20dead2eb0f0d04d9c"},
		{counted, steps(1, 300), steps(7, 150), "fa51f7f0bad6746d6d62114b903be5e9e32450fe094c5da368db8b937f78124026c0ef82a62f06d147cf935207cf291255c924067bbbb79ebf85fd2b79eb5149" +
			"f883d87db30eb92ce317c1f9532735c907a30a94a7d05ed54a6a8820fa471196d30a7619d46939a4f8516ddefb350da39959c9c0ec5994d4a5ca563014ab3574" +
			"aefc5d6347738b768d05a31551a9fb95775bad73588494c32c5c908f3bf7f2a7929db3e0eba2a121692cb11e83ebc8e4114d0a637174"},
	} {
		want := unhex(t, x.want)
		if box, e := seal.Seal(nil, x.key, x.aside, x.text); e != api.OK || !bytes.Equal(box, want) {
			t.Errorf("%d: Seal %x %v", i, box, e)
		}
		if text, e := seal.Open(nil, x.key, x.aside, want); e != api.OK || !bytes.Equal(text, x.text) {
			t.Errorf("%d: Open %x %v", i, text, e)
		}
	}
	box := sealed(t, counted, steps(1, 4000), steps(7, 4000))
	if k := sha256.Sum256(box); len(box) != 4032 || hex.EncodeToString(k[:]) != "08debff13ef4c10a7fdf589533e76985f53af54bdd61671e4495d657ef323b79" {
		t.Errorf("the longest: %d bytes, %x", len(box), k)
	}
}

func TestSeal(t *testing.T) {
	for _, m := range meters() {
		for i, aside := range sizes() {
			for j, text := range append(sizes(), 3999, 4000) {
				key := api.Key(noise(int64(100*i+j)+10000, 32))
				a, b := noise(6, aside), noise(7, text)
				if got, e := seal.Seal(m, key, a, b); e != api.OK || !bytes.Equal(got, plainSeal(t, key, a, b)) {
					t.Errorf("%d aside, a text of %d: %x %v", aside, text, got, e)
				}
			}
		}
	}
}

func TestSealEndsWithTag(t *testing.T) {
	for _, n := range append(sizes(), 4000) {
		key, aside := api.Key(noise(int64(n), 32)), noise(8, n)
		box := sealed(t, key, aside, noise(9, n))
		if tag := seal.Tag(nil, key, aside, box[:n]); len(box) != n+32 || !bytes.Equal(tag[:], box[n:]) {
			t.Errorf("a text of %d: %d bytes, %x", n, len(box), tag)
		}
	}
}

func TestSealHides(t *testing.T) {
	text := make([]byte, 200)
	box := sealed(t, api.Key{1}, nil, text)
	if bytes.Contains(box, make([]byte, 4)) || bytes.Equal(box[:64], box[64:128]) {
		t.Errorf("%x", box)
	}
}

func TestSealOfLong(t *testing.T) {
	for _, x := range []struct {
		aside, text int
		e           api.Errno
	}{
		{3999, 0, api.OK}, {4000, 0, api.OK}, {4001, 0, api.ErrLong}, {4032, 0, api.ErrLong}, {1 << 20, 0, api.ErrLong},
		{0, 3999, api.OK}, {0, 4000, api.OK}, {0, 4001, api.ErrLong}, {0, 4032, api.ErrLong}, {0, 1 << 20, api.ErrLong},
		{4000, 4000, api.OK}, {4001, 4000, api.ErrLong}, {4000, 4001, api.ErrLong}, {4001, 4001, api.ErrLong},
	} {
		m := sha.New(true)
		box, e := seal.Seal(m, api.Key{1}, make([]byte, x.aside), make([]byte, x.text))
		switch {
		case e != x.e:
			t.Errorf("%d aside, a text of %d: %v, want %v", x.aside, x.text, e, x.e)
		case e == api.OK && len(box) != x.text+32:
			t.Errorf("%d aside, a text of %d: %d bytes", x.aside, x.text, len(box))
		case e != api.OK && (len(box) != 0 || m.Count() != 0):
			t.Errorf("%d aside, a text of %d: %d bytes, %d digests", x.aside, x.text, len(box), m.Count())
		}
	}
}

// TestSealMakesEachKeyOnce: two digests each, and two of the tag.
func TestSealMakesEachKeyOnce(t *testing.T) {
	key, aside, text := api.Key(noise(10, 32)), []byte("aside"), noise(11, 300)
	m, want := sha.New(true), sha.New(true)
	box, _ := seal.Seal(m, key, aside, text)
	mac.Derive(want, key, "hide")
	seal.Tag(want, key, aside, box[:300])
	if m.Count() != 6 || !sameLists(m.Inputs(), want.Inputs()) {
		t.Errorf("%d: %x, want %x", m.Count(), m.Inputs(), want.Inputs())
	}
}

// E3

func TestOpenExamples(t *testing.T) {
	key := api.Key{1, 2, 3}
	box := sealed(t, key, []byte("a"), []byte("hello"))
	turned := bytes.Clone(box)
	turned[0] ^= 1
	for i, x := range []struct {
		aside string
		box   []byte
		text  string
		e     api.Errno
	}{{"a", box, "hello", api.OK}, {"b", box, "", api.ErrSeal}, {"a", turned, "", api.ErrSeal}, {"a", make([]byte, 31), "", api.ErrShort}} {
		if text, e := seal.Open(nil, key, []byte(x.aside), x.box); string(text) != x.text || e != x.e {
			t.Errorf("%d: %q %v", i, text, e)
		}
	}
}

// TestOpenOfWrongSizes: what is too long is told first, whatever else is wrong.
func TestOpenOfWrongSizes(t *testing.T) {
	for _, x := range []struct {
		aside, box int
		e          api.Errno
	}{
		{0, 0, api.ErrShort}, {0, 1, api.ErrShort}, {0, 30, api.ErrShort}, {0, 31, api.ErrShort}, {4000, 31, api.ErrShort}, {4000, 0, api.ErrShort},
		{0, 32, api.ErrSeal}, {0, 33, api.ErrSeal}, {0, 4000, api.ErrSeal}, {0, 4031, api.ErrSeal}, {0, 4032, api.ErrSeal}, {4000, 4032, api.ErrSeal}, {4000, 32, api.ErrSeal},
		{0, 4033, api.ErrLong}, {0, 8000, api.ErrLong}, {0, 1 << 20, api.ErrLong}, {4000, 4033, api.ErrLong},
		{4001, 0, api.ErrLong}, {4001, 31, api.ErrLong}, {4001, 32, api.ErrLong}, {4001, 4032, api.ErrLong}, {4001, 4033, api.ErrLong}, {1 << 20, 100, api.ErrLong},
	} {
		m := sha.New(true)
		if text, e := seal.Open(m, api.Key{1}, make([]byte, x.aside), make([]byte, x.box)); len(text) != 0 || e != x.e {
			t.Errorf("%d aside, a box of %d: %x %v, want %v", x.aside, x.box, text, e, x.e)
		}
		if e := x.e; e != api.ErrSeal && m.Count() != 0 {
			t.Errorf("%d aside, a box of %d: %d digests", x.aside, x.box, m.Count())
		}
	}
	if text, e := seal.Open(nil, api.Key{1}, nil, nil); len(text) != 0 || e != api.ErrShort {
		t.Error(text, e)
	}
}

// TestOpenOfLongAside: what is too long is refused where its tag fits, too.
func TestOpenOfLongAside(t *testing.T) {
	key := api.Key{1}
	for n, want := range map[int]api.Errno{4000: api.OK, 4001: api.ErrLong} {
		aside := make([]byte, n)
		if _, e := seal.Open(nil, key, aside, plainSeal(t, key, aside, []byte("hello"))); e != want {
			t.Errorf("%d aside: %v, want %v", n, e, want)
		}
	}
	hidden := make([]byte, 4001)
	tag := seal.Tag(nil, key, nil, hidden)
	if text, e := seal.Open(nil, key, nil, append(hidden, tag[:]...)); len(text) != 0 || e != api.ErrLong {
		t.Errorf("%d hidden: %d bytes, %v", len(hidden), len(text), e)
	}
}

// TestOpenOfTagOfAnotherOne: of a digest made otherwise than E1 says.
func TestOpenOfTagOfAnotherOne(t *testing.T) {
	key, aside := api.Key{1, 2, 3}, []byte("aside")
	box := sealed(t, key, aside, []byte("a text"))
	hidden := box[:6]
	size := []byte{0, 0, 0, 0, 0, 0, 0, 5}
	hide, own := mac.Derive(nil, key, "hide"), mac.Derive(nil, key, "tag")
	for i, tag := range []api.Key{
		{}, key, hide, own,
		mac.Sum(nil, key[:], size, aside, hidden),
		mac.Sum(nil, hide[:], size, aside, hidden),
		mac.Sum(nil, own[:], aside, hidden),
		mac.Sum(nil, own[:], []byte{5, 0, 0, 0, 0, 0, 0, 0}, aside, hidden),
		mac.Sum(nil, own[:], size, hidden, aside),
		mac.Sum(nil, own[:], size, aside, []byte("a text")),
		mac.Sum(nil, own[:], size, aside),
	} {
		if text, e := seal.Open(nil, key, aside, append(bytes.Clone(hidden), tag[:]...)); len(text) != 0 || e != api.ErrSeal {
			t.Errorf("%d: %q %v", i, text, e)
		}
	}
}

// TestOpenLooksAtTheTagFirst: of a box that is refused nothing is shown, nor the key made that would show it.
func TestOpenLooksAtTheTagFirst(t *testing.T) {
	key, aside := api.Key(noise(12, 32)), []byte("aside")
	box := sealed(t, key, aside, noise(13, 300))
	m, want := sha.New(true), sha.New(true)
	seal.Tag(want, key, aside, box[:300])
	box[331] ^= 1
	if text, e := seal.Open(m, key, aside, box); len(text) != 0 || e != api.ErrSeal {
		t.Errorf("%x %v", text, e)
	}
	if m.Count() != 4 || !sameLists(m.Inputs(), want.Inputs()) {
		t.Errorf("refused: %d: %x, want %x", m.Count(), m.Inputs(), want.Inputs())
	}
	box[331] ^= 1
	m = sha.New(true)
	if _, e := seal.Open(m, key, aside, box); e != api.OK {
		t.Error(e)
	}
	mac.Derive(want, key, "hide")
	if m.Count() != 6 || !sameLists(m.Inputs(), want.Inputs()) {
		t.Errorf("opened: %d: %x, want %x", m.Count(), m.Inputs(), want.Inputs())
	}
}

// E4

func TestWhatIsSealedIsOpened(t *testing.T) {
	for _, m := range meters() {
		for i, aside := range append(sizes(), 3999, 4000) {
			for j, n := range append(sizes(), 3999, 4000) {
				key := api.Key(noise(int64(100*i+j)+20000, 32))
				a, text := noise(14, aside), noise(15, n)
				box, e := seal.Seal(m, key, a, text)
				got, e2 := seal.Open(m, key, a, box)
				if e != api.OK || e2 != api.OK || !bytes.Equal(got, text) {
					t.Errorf("%d aside, a text of %d: %v %v", aside, n, e, e2)
				}
			}
		}
	}
}

// TestNothingElseIsOpened: each bit of key, aside and box turned, and each of them cut, or longer.
func TestNothingElseIsOpened(t *testing.T) {
	refused := func(what string, i int, key api.Key, aside, box []byte) {
		t.Helper()
		if text, e := seal.Open(nil, key, aside, box); len(text) != 0 || e != api.ErrSeal {
			t.Errorf("%s, %d: %x %v", what, i, text, e)
		}
	}
	for _, n := range []int{0, 1, 70} {
		key, aside := api.Key(noise(int64(n), 32)), noise(16, n)
		box := sealed(t, key, aside, noise(17, n))
		for bit := range 8 * len(key) {
			other := key
			other[bit/8] ^= 1 << (bit % 8)
			refused("key", bit, other, aside, box)
		}
		for bit := range 8 * len(aside) {
			other := bytes.Clone(aside)
			other[bit/8] ^= 1 << (bit % 8)
			refused("aside", bit, key, other, box)
		}
		for bit := range 8 * len(box) {
			other := bytes.Clone(box)
			other[bit/8] ^= 1 << (bit % 8)
			refused("box", bit, key, aside, other)
		}
		for i := range aside {
			refused("aside cut", i, key, aside[:i], box)
		}
		refused("aside longer", n, key, append(bytes.Clone(aside), 0), box)
		refused("aside longer ahead", n, key, append([]byte{0}, aside...), box)
		for i := 32; i < len(box); i++ {
			refused("box cut", i, key, aside, box[:i])
			refused("box cut ahead", i, key, aside, box[len(box)-i:])
		}
		refused("box longer", n, key, aside, append(bytes.Clone(box), 0))
		refused("box longer ahead", n, key, aside, append([]byte{0}, box...))
	}
}

// TestAsideDoesNotRunIntoTheBox: bytes that move from one to the other.
func TestAsideDoesNotRunIntoTheBox(t *testing.T) {
	key, b := api.Key{1}, noise(18, 40)
	for i := range b {
		box := sealed(t, key, b[:i], b[i:])
		if text, e := seal.Open(nil, key, append(bytes.Clone(b[:i]), box[0]), box[1:]); len(text) != 0 || e != api.ErrSeal {
			t.Errorf("%d: %x %v", i, text, e)
		}
	}
}

// R4, R5, R6: nil is empty, nothing handed in is changed, answers are lists of their own, and a Meter changes none.

func TestNilIsEmpty(t *testing.T) {
	key := api.Key(noise(19, 32))
	box := sealed(t, key, nil, nil)
	for _, empty := range [][]byte{nil, {}} {
		if b, e := seal.Seal(nil, key, empty, empty); e != api.OK || !bytes.Equal(b, box) {
			t.Errorf("%x %v, want %x", b, e, box)
		}
		if text, e := seal.Open(nil, key, empty, box); e != api.OK || len(text) != 0 {
			t.Errorf("%x %v", text, e)
		}
	}
}

func TestNothingHandedInIsChanged(t *testing.T) {
	key, room := api.Key{1}, noise(20, 500)
	box := sealed(t, key, room[:50], room[50:150])
	spare := append(bytes.Clone(box), noise(21, 100)...)
	seal.Seal(nil, key, room[:50], room[50:150])
	seal.Tag(nil, key, room[:50], room[50:150])
	if _, e := seal.Open(nil, key, room[:50], spare[:len(box)]); e != api.OK {
		t.Error(e)
	}
	seal.Open(nil, key, room[:51], spare[:len(box)])
	if !bytes.Equal(room, noise(20, 500)) || !bytes.Equal(spare, append(bytes.Clone(box), noise(21, 100)...)) {
		t.Error("what was handed in is changed")
	}
}

func TestAnswersAreTheirOwn(t *testing.T) {
	m := sha.New(true)
	key, aside, text := api.Key{1}, noise(22, 50), noise(23, 100)
	box, _ := seal.Seal(m, key, aside, text)
	want := bytes.Clone(box)
	clear(text)
	if !bytes.Equal(box, want) {
		t.Error("a box hangs on the text that was handed in")
	}
	opened, _ := seal.Open(m, key, aside, box)
	kept := m.Inputs()
	clear(box)
	if !bytes.Equal(opened, noise(23, 100)) {
		t.Error("a text hangs on the box that was handed in")
	}
	clear(opened)
	if !sameLists(m.Inputs(), kept) {
		t.Error("what a Meter keeps is changed")
	}
	if again, e := seal.Open(m, key, aside, want); e != api.OK || !bytes.Equal(again, noise(23, 100)) {
		t.Errorf("%x %v", again, e)
	}
}

func TestMeterUsedBySeveral(t *testing.T) {
	const several, each = 8, 20
	m := sha.New(true)
	var all sync.WaitGroup
	for who := range several {
		all.Go(func() {
			key := api.Key(noise(int64(who), 32))
			for i := range each {
				text := noise(int64(i), 40)
				box, _ := seal.Seal(m, key, nil, text)
				if got, e := seal.Open(m, key, nil, box); e != api.OK || !bytes.Equal(got, text) {
					t.Errorf("%d, %d: %x %v", who, i, got, e)
				}
			}
		})
	}
	all.Wait()
	if m.Count() != 12*several*each {
		t.Error(m.Count())
	}
}
