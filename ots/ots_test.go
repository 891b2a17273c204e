package ots_test

import (
	"bytes"
	"crypto/sha256"
	"encoding/binary"
	"encoding/hex"
	"math"
	"math/rand"
	"slices"
	"testing"

	"cablegram/api"
	"cablegram/ots"
	"cablegram/sha"
)

// noise is of the same keys each time.
func noise(seed int64, count int) []api.Key {
	r := rand.New(rand.NewSource(seed))
	l := make([]api.Key, count)
	for i := range l {
		r.Read(l[i][:])
	}
	return l
}

func unhex(t *testing.T, s string) api.Key {
	t.Helper()
	b, err := hex.DecodeString(s)
	if err != nil || len(b) != 32 {
		t.Fatal(s, err)
	}
	return api.Key(b)
}

// steps is the key of bytes that begin at 0, each so much above the one ahead of it.
func steps(by byte) api.Key {
	var k api.Key
	for i := range k {
		k[i] = by * byte(i)
	}
	return k
}

// filled is the key of one byte.
func filled(b byte) api.Key { return api.Key(bytes.Repeat([]byte{b}, 32)) }

// turned is a key with one bit turned.
func turned(k api.Key, bit int) api.Key {
	k[bit/8] ^= 1 << (bit % 8)
	return k
}

// meters has one of each kind.
func meters() []*sha.Meter { return []*sha.Meter{nil, sha.New(false), sha.New(true)} }

// digests has those of which all digits are alike, those about which the sum's digits change, and others.
func digests() []api.Key {
	l := []api.Key{{}, {1}, {16}, {0: 31, 1: 240}, {31: 1}, {31: 16}, {31: 255}, steps(1), steps(17)}
	for digit := range 16 {
		l = append(l, filled(byte(17*digit)))
	}
	for bit := range 256 {
		l = append(l, turned(api.Key{}, bit), turned(filled(255), bit))
	}
	return append(l, noise(1, 100)...)
}

// few has some of those, for what takes a signature.
func few() []api.Key {
	return append([]api.Key{{}, filled(255), filled(7), steps(17)}, noise(2, 4)...)
}

// plainDigits is H1, of the digest's text.
func plainDigits(digest api.Key) []int {
	var l []int
	lack := 0
	for _, c := range hex.EncodeToString(digest[:]) {
		d := bytes.IndexRune([]byte("0123456789abcdef"), c)
		l = append(l, d)
		lack += 15 - d
	}
	return append(l, lack/256, lack/16%16, lack%16)
}

// plainAlong is H2 by the library.
func plainAlong(tag api.Key, chain, from, to int, v api.Key) api.Key {
	for i := from; i < to; i++ {
		b := binary.BigEndian.AppendUint16(slices.Clone(tag[:]), uint16(chain))
		b = binary.BigEndian.AppendUint16(b, uint16(i))
		v = sha256.Sum256(append(b, v[:]...))
	}
	return v
}

// plainRecover is H4 by the library, of sixty-seven keys.
func plainRecover(tag, digest api.Key, l []api.Key) api.Key {
	b := slices.Clone(tag[:])
	for i, digit := range plainDigits(digest) {
		end := plainAlong(tag, i, digit, 15, l[i])
		b = append(b, end[:]...)
	}
	return sha256.Sum256(b)
}

// H1

func TestDigitsExamples(t *testing.T) {
	for _, x := range []struct {
		digest api.Key
		want   []int
	}{
		{filled(255), []int{0, 0, 0}},
		{api.Key{}, []int{3, 12, 0}},
		{filled(240), []int{1, 14, 0}},
		{filled(15), []int{1, 14, 0}},
		{turned(filled(255), 0), []int{0, 0, 1}},
		{turned(filled(255), 4), []int{0, 0, 1}},
		{api.Key{1}, []int{3, 11, 15}},
		{api.Key{0x1f, 0xf0}, []int{3, 10, 1}},
	} {
		if l := ots.Digits(x.digest); len(l) != 67 || !slices.Equal(l[64:], x.want) {
			t.Errorf("%x: %v, want %v", x.digest, l, x.want)
		}
	}
}

// TestDigitsOfEachByte: the higher half ahead of the lower one, at each place.
func TestDigitsOfEachByte(t *testing.T) {
	for at := range 32 {
		for b := range 256 {
			digest := api.Key{}
			digest[at] = byte(b)
			l := ots.Digits(digest)
			if len(l) != 67 || l[2*at] != b/16 || l[2*at+1] != b%16 {
				t.Fatalf("byte %d is %d: %v", at, b, l)
			}
			for i, d := range l[:64] {
				if i/2 != at && d != 0 {
					t.Fatalf("byte %d is %d: %v", at, b, l)
				}
			}
		}
	}
}

func TestDigits(t *testing.T) {
	for _, digest := range digests() {
		l := ots.Digits(digest)
		if !slices.Equal(l, plainDigits(digest)) {
			t.Errorf("%x: %v, want %v", digest, l, plainDigits(digest))
		}
		for _, d := range l {
			if d < 0 || d > 15 {
				t.Errorf("%x: %v", digest, l)
			}
		}
	}
}

// H2

func TestAlong(t *testing.T) {
	tag, v := noise(3, 1)[0], noise(4, 1)[0]
	for _, m := range meters() {
		for _, chain := range []int{0, 1, 3, 66, 67, 255, 256, 258, 65535} {
			for from := range 17 {
				for to := from; to < 17; to++ {
					if k, want := ots.Along(m, tag, chain, from, to, v), plainAlong(tag, chain, from, to, v); k != want {
						t.Errorf("chain %d, %d to %d: %x, want %x", chain, from, to, k, want)
					}
				}
			}
		}
	}
}

// TestAlongAsAnotherProgram: the keys are another program's, of the chapter's words.
func TestAlongAsAnotherProgram(t *testing.T) {
	if k := ots.Along(nil, steps(7), 66, 0, 15, steps(1)); k != unhex(t, "b8f5753f9b0bd52a0ac547530e7c5cdff1accd418b3cf5d162abc7076fa80121") {
		t.Errorf("a whole chain: %x", k)
	}
	if k := ots.Along(nil, api.Key{}, 0, 14, 15, api.Key{}); k != unhex(t, "bdd297b2c764a682a8230f1000a89576a2f189559ea4fd703a9a5de39dae9acd") {
		t.Errorf("its last step: %x", k)
	}
}

// TestAlongGoesNowhere: where `to` is not above `from`, whichever they are.
func TestAlongGoesNowhere(t *testing.T) {
	m, v := sha.New(true), api.Key{7}
	for _, x := range [][2]int{{0, 0}, {15, 15}, {4, 2}, {15, 0}, {0, -1}, {-1, -1}, {-1, -2}, {-5, math.MinInt}, {math.MaxInt, math.MinInt}, {math.MaxInt, math.MaxInt}, {math.MinInt, math.MinInt}, {math.MaxInt, 0}, {0, math.MinInt}} {
		if k := ots.Along(m, api.Key{1}, 3, x[0], x[1], v); k != v || m.Count() != 0 {
			t.Errorf("%v: %x, %d digests", x, k, m.Count())
		}
	}
}

// TestAlongOfAnyNumbers: of each the lowest 16 bits.
func TestAlongOfAnyNumbers(t *testing.T) {
	tag, v := noise(5, 1)[0], noise(6, 1)[0]
	for _, x := range [][3]int{
		{0, 254, 258}, {0, 65533, 65539}, {0, -3, 3}, {0, -70000, -69990}, {0, 1<<32 - 2, 1<<32 + 2}, {0, 1 << 40, 1<<40 + 3},
		{0, math.MaxInt - 3, math.MaxInt}, {0, math.MinInt, math.MinInt + 3},
		{65536, 0, 3}, {65535, 0, 3}, {-1, 0, 3}, {-65536, 0, 3}, {1<<32 + 5, 0, 3}, {math.MaxInt, 0, 3}, {math.MinInt, 0, 3}, {math.MinInt, math.MaxInt - 2, math.MaxInt},
	} {
		if k, want := ots.Along(nil, tag, x[0], x[1], x[2], v), plainAlong(tag, x[0], x[1], x[2], v); k != want || k == v {
			t.Errorf("chain %d, %d to %d: %x, want %x", x[0], x[1], x[2], k, want)
		}
	}
	for chain, other := range map[int]int{0: 65536, 65535: -1, 5: 1<<32 + 5} {
		if ots.Along(nil, tag, chain, 0, 3, v) != ots.Along(nil, tag, other, 0, 3, v) {
			t.Errorf("chains %d and %d differ", chain, other)
		}
	}
}

func TestAlongIsGoneInParts(t *testing.T) {
	tag, v := noise(7, 1)[0], noise(8, 1)[0]
	want := ots.Along(nil, tag, 9, 0, 15, v)
	for at := range 16 {
		if k := ots.Along(nil, tag, 9, at, 15, ots.Along(nil, tag, 9, 0, at, v)); k != want {
			t.Errorf("by way of %d: %x, want %x", at, k, want)
		}
	}
}

// TestAlongIsOfItsPlace: each bit of tag and key, and each chain and step, leads to another key.
func TestAlongIsOfItsPlace(t *testing.T) {
	tag, v := noise(9, 1)[0], noise(10, 1)[0]
	seen := map[api.Key]bool{}
	note := func(k api.Key) {
		t.Helper()
		if seen[k] {
			t.Errorf("%x comes twice", k)
		}
		seen[k] = true
	}
	for chain := range 300 {
		for from := range 15 {
			note(ots.Along(nil, tag, chain, from, from+1, v))
		}
	}
	for bit := range 256 {
		note(ots.Along(nil, turned(tag, bit), 0, 0, 1, v))
		note(ots.Along(nil, tag, 0, 0, 1, turned(v, bit)))
	}
}

// TestAlongIsOfItsDigestsAlone: one a step, of the Meter.
func TestAlongIsOfItsDigestsAlone(t *testing.T) {
	tag, v := noise(11, 1)[0], noise(12, 1)[0]
	m := sha.New(true)
	ots.Along(m, tag, 258, 4, 6, v)
	mid := plainAlong(tag, 258, 4, 5, v)
	want := [][]byte{slices.Concat(tag[:], []byte{1, 2, 0, 4}, v[:]), slices.Concat(tag[:], []byte{1, 2, 0, 5}, mid[:])}
	if m.Count() != 2 || !slices.EqualFunc(m.Inputs(), want, bytes.Equal) {
		t.Errorf("%d: %x, want %x", m.Count(), m.Inputs(), want)
	}
}

// H4

// TestRecover: of any keys, signed by somebody or not.
func TestRecover(t *testing.T) {
	for _, m := range meters() {
		for i, digest := range few() {
			tag := noise(int64(20+i), 1)[0]
			for _, l := range [][]api.Key{noise(int64(30+i), 67), make([]api.Key, 67)} {
				if k, e := ots.Recover(m, tag, digest, l); k != plainRecover(tag, digest, l) || e != api.OK {
					t.Errorf("%x: %x %v, want %x", digest, k, e, plainRecover(tag, digest, l))
				}
			}
		}
	}
}

func TestRecoverOfWrongSizes(t *testing.T) {
	l := noise(13, 4000)
	for _, n := range []int{0, 1, 2, 32, 64, 65, 66, 68, 69, 134, 4000} {
		m := sha.New(true)
		if k, e := ots.Recover(m, api.Key{1}, api.Key{2}, l[:n]); k != (api.Key{}) || e != api.ErrSign || m.Count() != 0 {
			t.Errorf("%d keys: %x %v, %d digests", n, k, e, m.Count())
		}
	}
	for _, none := range [][]api.Key{nil, {}} {
		if k, e := ots.Recover(nil, api.Key{}, api.Key{}, none); k != (api.Key{}) || e != api.ErrSign {
			t.Errorf("none: %x %v", k, e)
		}
	}
	if _, e := ots.Recover(nil, api.Key{1}, api.Key{2}, l[:67]); e != api.OK {
		t.Error("sixty-seven keys:", e)
	}
}

// TestRecoverIsOfItsDigestsAlone: one of each step that is left, and one of the ends.
func TestRecoverIsOfItsDigestsAlone(t *testing.T) {
	l := noise(14, 67)
	for _, digest := range few() {
		want := 1
		for _, digit := range plainDigits(digest) {
			want += 15 - digit
		}
		m := sha.New(true)
		k, _ := ots.Recover(m, api.Key{1}, digest, l)
		inputs := m.Inputs()
		last := sha256.Sum256(inputs[len(inputs)-1])
		if m.Count() != want || len(inputs) != want || len(inputs[want-1]) != 32*68 || api.Key(last) != k {
			t.Errorf("%x: %d digests, want %d", digest, m.Count(), want)
		}
	}
}

// R5: nothing handed in is changed, and what is answered hangs on it no more.

func TestNothingHandedInIsChanged(t *testing.T) {
	room := noise(15, 100)
	if _, e := ots.Recover(nil, api.Key{1}, api.Key{2}, room[:67]); e != api.OK {
		t.Error(e)
	}
	ots.Recover(nil, api.Key{1}, api.Key{2}, room[:66])
	if !slices.Equal(room, noise(15, 100)) {
		t.Error("what was handed in is changed")
	}
}

func TestDigitsAreTheirOwn(t *testing.T) {
	a, b := ots.Digits(steps(1)), ots.Digits(steps(1))
	clear(a[:cap(a)])
	if want := plainDigits(steps(1)); !slices.Equal(b, want) || !slices.Equal(ots.Digits(steps(1)), want) {
		t.Errorf("%v, want %v", b, want)
	}
}
