package ots_test

import (
	"bytes"
	"crypto/hkdf"
	"crypto/sha256"
	"slices"
	"sync"
	"testing"

	"cablegram/api"
	"cablegram/ots"
	"cablegram/sha"
)

// plainFirst is what a chain begins with, by the library.
func plainFirst(t *testing.T, seed api.Key, chain int) api.Key {
	t.Helper()
	b, err := hkdf.Expand(sha256.New, seed[:], string([]byte{5})+"chain"+string([]byte{0, 0, 0, 2, 0, byte(chain)}), 32)
	if err != nil {
		t.Fatal(err)
	}
	return api.Key(b)
}

// plainSign is H3's signature by the library.
func plainSign(t *testing.T, seed, tag, digest api.Key) []api.Key {
	t.Helper()
	var l []api.Key
	for i, digit := range plainDigits(digest) {
		l = append(l, plainAlong(tag, i, 0, digit, plainFirst(t, seed, i)))
	}
	return l
}

// plainPublic is H3's public key by the library.
func plainPublic(t *testing.T, seed, tag api.Key) api.Key {
	t.Helper()
	b := slices.Clone(tag[:])
	for i := range 67 {
		end := plainAlong(tag, i, 0, 15, plainFirst(t, seed, i))
		b = append(b, end[:]...)
	}
	return sha256.Sum256(b)
}

// joined is the digest of keys, one behind the other.
func joined(l []api.Key) api.Key {
	var b []byte
	for _, k := range l {
		b = append(b, k[:]...)
	}
	return sha256.Sum256(b)
}

// H3

// TestSignerAsAnotherProgram: public keys, digests of signatures, and their first and last keys are another program's, of the chapter's words.
func TestSignerAsAnotherProgram(t *testing.T) {
	text := api.Key(sha256.Sum256([]byte("text")))
	for i, x := range []struct {
		seed, tag, digest               api.Key
		public, signature, first, final string
	}{
		{api.Key{}, api.Key{}, api.Key{}, "20b10a182bf2389da1bab295506668b50f25e60d560cbbb469d9ec4abd9d55bf", "6d1a242c4ae0f95749672d23331d8fe55d903fe72c262105e0529564eaf88586", "c86f56d6b29e945f374d5639df47bc584f04c9a3fc730f2808bdd2cbe9196624", "ef72885f186af5167c35046d8c3579730c4561b1bed8b31f9ff58c5e062dc28a"},
		{steps(1), steps(7), text, "a50421a235b51688326521baaec506826c5316432f83d7043d6df4426547524b", "eb28968903e0354492db824abb0421ec97f6ac65f6e1d179acca8b5b87ac8bd9", "5819e41eea74caf2f796b78afd03bd436eb5bba019baa1c809e05c1667d40d43", "86952ab349daf6172e1ddba192db8fa872b98926b7a980317c95d87d0e41394a"},
		{filled(255), filled(255), filled(255), "d41682ab0390c047ad0f21a23508cd473a9b3c5c7b14b2bca8ad387571c31d17", "69898aba1d4071f0ed310c77a55d3f32bb2a0a97aaf972157cad83479d781ea1", "84181c7f23558139be70371db99b34c7789aa0bc779f30f653b1875b23d3f161", "82ede1a2ecd143c1a0f4ff6cdb55ab6455e3974402ed3bf625177abb430cfa84"},
	} {
		s := ots.New(nil, x.seed, x.tag)
		l := s.Sign(x.digest)
		if k := s.Public(); k != unhex(t, x.public) {
			t.Errorf("%d: Public %x", i, k)
		}
		if len(l) != 67 || joined(l) != unhex(t, x.signature) || l[0] != unhex(t, x.first) || l[66] != unhex(t, x.final) {
			t.Errorf("%d: Sign %x", i, l)
		}
	}
}

func TestSigner(t *testing.T) {
	for _, m := range meters() {
		for i, seed := range few() {
			tag := noise(int64(40+i), 1)[0]
			s := ots.New(m, seed, tag)
			if k, want := s.Public(), plainPublic(t, seed, tag); k != want {
				t.Errorf("%x: %x, want %x", seed, k, want)
			}
			for _, digest := range few() {
				if l := s.Sign(digest); !slices.Equal(l, plainSign(t, seed, tag, digest)) {
					t.Errorf("%x, %x: %x", seed, digest, l)
				}
			}
			if s.Public() != plainPublic(t, seed, tag) {
				t.Errorf("%x, behind Sign: %x", seed, s.Public())
			}
		}
	}
}

// TestSignerMakesItsPublicKeyOnce: when it is first asked, not ahead of that, and by Public alone.
func TestSignerMakesItsPublicKeyOnce(t *testing.T) {
	const signed, made = 67 * 2, 67*(2+15) + 1
	m := sha.New(false)
	s := ots.New(m, api.Key{1}, api.Key{2})
	if m.Count() != 0 {
		t.Error("made ahead of being asked:", m.Count())
	}
	s.Sign(filled(0))
	s.Sign(filled(255))
	want := 2*signed + 3 + 12 + 64*15
	if m.Count() != want {
		t.Errorf("of two signatures: %d digests, want %d", m.Count(), want)
	}
	k := s.Public()
	if m.Count() != want+made {
		t.Errorf("asked once: %d digests, want %d", m.Count(), want+made)
	}
	if s.Public() != k || m.Count() != want+made {
		t.Errorf("asked twice: %d digests, want %d", m.Count(), want+made)
	}
}

// TestSignerIsOfItsDigestsAlone: all that its Meter keeps are steps, keyed digests, and at last the ends.
func TestSignerIsOfItsDigestsAlone(t *testing.T) {
	m := sha.New(true)
	tag := noise(50, 1)[0]
	s := ots.New(m, noise(51, 1)[0], tag)
	k := s.Public()
	inputs := m.Inputs()
	n, last := 0, sha256.Sum256(inputs[len(inputs)-1])
	for _, b := range inputs {
		if len(b) == 32+2+2+32 && bytes.HasPrefix(b, tag[:]) {
			n++
		}
	}
	if n != 67*15 || api.Key(last) != k || len(inputs[len(inputs)-1]) != 32*68 {
		t.Errorf("%d steps; %d bytes at last", n, len(inputs[len(inputs)-1]))
	}
}

// TestSignersAreTheirOwn: each bit of seed and tag makes another public key, and other signatures.
func TestSignersAreTheirOwn(t *testing.T) {
	seed, tag, digest := noise(52, 1)[0], noise(53, 1)[0], noise(54, 1)[0]
	s := ots.New(nil, seed, tag)
	same := ots.New(nil, seed, tag)
	if s.Public() != same.Public() || !slices.Equal(s.Sign(digest), same.Sign(digest)) {
		t.Error("two of one seed and one tag differ")
	}
	seen := map[api.Key]int{s.Public(): -1}
	for i := range 64 {
		bit := 4*i + i%4
		for j, other := range []*ots.Signer{ots.New(nil, turned(seed, bit), tag), ots.New(nil, seed, turned(tag, bit))} {
			if at, ok := seen[other.Public()]; ok {
				t.Errorf("%d, %d: the key of %d", i, j, at)
			}
			seen[other.Public()] = i
			if slices.Equal(other.Sign(digest), s.Sign(digest)) {
				t.Errorf("%d, %d: one signature", i, j)
			}
		}
	}
}

func TestSignerUsedBySeveral(t *testing.T) {
	const several, each = 8, 3
	seed, tag, digest := noise(55, 1)[0], noise(56, 1)[0], filled(17)
	public, signature := plainPublic(t, seed, tag), plainSign(t, seed, tag, digest)
	m := sha.New(false)
	s := ots.New(m, seed, tag)
	var all sync.WaitGroup
	for range several {
		all.Go(func() {
			for range each {
				if k := s.Public(); k != public {
					t.Errorf("Public: %x, want %x", k, public)
				}
				if l := s.Sign(digest); !slices.Equal(l, signature) {
					t.Errorf("Sign: %x", l)
				}
			}
		})
	}
	all.Wait()
	sum := 0
	for _, digit := range plainDigits(digest) {
		sum += digit
	}
	if want := 67*(2+15) + 1 + several*each*(67*2+sum); m.Count() != want {
		t.Errorf("%d digests, want %d", m.Count(), want)
	}
}

// TestSignerThatWasNotMade: R1: a nil one has nothing; the zero one is that of seed and tag 0.
func TestSignerThatWasNotMade(t *testing.T) {
	var none *ots.Signer
	if k, l := none.Public(), none.Sign(api.Key{1}); k != (api.Key{}) || len(l) != 0 {
		t.Errorf("nil: %x, %x", k, l)
	}
	var zero ots.Signer
	made := ots.New(nil, api.Key{}, api.Key{})
	if zero.Public() != made.Public() || !slices.Equal(zero.Sign(api.Key{1}), made.Sign(api.Key{1})) {
		t.Errorf("zero: %x, want %x", zero.Public(), made.Public())
	}
}

func TestSignaturesAreTheirOwn(t *testing.T) {
	s := ots.New(nil, api.Key{1}, api.Key{2})
	a, b := s.Sign(steps(1)), s.Sign(steps(1))
	want := slices.Clone(b)
	clear(a[:cap(a)])
	if !slices.Equal(b, want) || !slices.Equal(s.Sign(steps(1)), want) {
		t.Error("what was answered is changed")
	}
	if k, e := ots.Recover(nil, api.Key{2}, steps(1), want); k != s.Public() || e != api.OK {
		t.Errorf("%x %v", k, e)
	}
}

// H5

func TestWhatIsSignedIsRecovered(t *testing.T) {
	for _, m := range meters() {
		for i, digest := range digests() {
			if m != nil && i%40 != 0 { // few by a Meter: it changes no answer
				continue
			}
			seed, tag := noise(int64(i), 1)[0], noise(int64(i)+1000, 1)[0]
			s := ots.New(m, seed, tag)
			if k, e := ots.Recover(m, tag, digest, s.Sign(digest)); k != s.Public() || e != api.OK {
				t.Errorf("%x: %x %v, want %x", digest, k, e, s.Public())
			}
		}
	}
}

// TestNothingElseIsRecovered: each bit of the digest, some of the tag, and each key changed.
func TestNothingElseIsRecovered(t *testing.T) {
	seed, tag, digest := noise(60, 1)[0], noise(61, 1)[0], noise(62, 1)[0]
	s := ots.New(nil, seed, tag)
	l := s.Sign(digest)
	refused := func(what string, i int, tag, digest api.Key, l []api.Key) {
		t.Helper()
		if k, e := ots.Recover(nil, tag, digest, l); k == s.Public() || e != api.OK {
			t.Errorf("%s, %d: %x %v", what, i, k, e)
		}
	}
	for bit := range 256 {
		refused("digest", bit, tag, turned(digest, bit), l)
		if bit%5 == 0 {
			refused("tag", bit, turned(tag, bit), digest, l)
		}
	}
	for i, other := range few() {
		refused("another digest", i, tag, other, l)
	}
	for i := range l {
		for _, bit := range []int{0, 100, 255} {
			other := slices.Clone(l)
			other[i] = turned(other[i], bit)
			refused("key", i, tag, digest, other)
		}
		other := slices.Clone(l)
		other[i], other[(i+1)%67] = other[(i+1)%67], other[i]
		refused("keys that changed places", i, tag, digest, other)
	}
	refused("another one's", 0, tag, digest, ots.New(nil, turned(seed, 0), tag).Sign(digest))
	refused("under another tag", 0, tag, digest, ots.New(nil, seed, turned(tag, 0)).Sign(digest))
}

// TestNobodyGoesBackwards: of two digests each one has a digit above the other one's.
func TestNobodyGoesBackwards(t *testing.T) {
	above := func(a, b []int) bool {
		for i := range a {
			if a[i] > b[i] {
				return true
			}
		}
		return false
	}
	l := digests()
	for i, a := range l {
		for _, b := range l[i+1:] {
			if one, other := ots.Digits(a), ots.Digits(b); a != b && (!above(one, other) || !above(other, one)) {
				t.Errorf("%x, %x: %v, %v", a, b, one, other)
			}
		}
	}
}

// TestGoingOnSignsNothingElse: whoever goes on along the digest's own chains has not those of the sum.
func TestGoingOnSignsNothingElse(t *testing.T) {
	seed, tag := noise(63, 1)[0], noise(64, 1)[0]
	s := ots.New(nil, seed, tag)
	digest, higher := filled(16), filled(17)
	l := s.Sign(digest)
	from, to := ots.Digits(digest), ots.Digits(higher)
	for i := range l {
		l[i] = ots.Along(nil, tag, i, from[i], to[i], l[i])
	}
	if k, e := ots.Recover(nil, tag, higher, l); k == s.Public() || e != api.OK {
		t.Errorf("%x %v", k, e)
	}
}
