package ladder_test

import (
	"bytes"
	"crypto/ecdh"
	"encoding/hex"
	"math/rand"
	"slices"
	"testing"

	"cablegram/api"
	"cablegram/field"
	"cablegram/ladder"
)

// noise is of the same keys each time.
func noise(seed int64, count int) []api.Key {
	r := rand.New(rand.NewSource(seed))
	l := make([]api.Key, count)
	for i := range l {
		r.Read(l[i][:])
	}
	return l
}

func unhex(t *testing.T, s string) api.Key {
	t.Helper()
	b, err := hex.DecodeString(s)
	if err != nil || len(b) != 32 {
		t.Fatal(s, err)
	}
	return api.Key(b)
}

// above is the key of p and so much: -237 to 18.
func above(n int) api.Key {
	k := full()
	k[0], k[31] = byte(237+n), 127
	return k
}

func full() api.Key { return api.Key(bytes.Repeat([]byte{255}, 32)) }

// power is the key of so many doublings of 1.
func power(bit int) api.Key {
	var k api.Key
	k[bit/8] = 1 << (bit % 8)
	return k
}

// ones is the key whose lowest bits, so many, are set.
func ones(count int) api.Key {
	var k api.Key
	for bit := range count {
		k[bit/8] |= 1 << (bit % 8)
	}
	return k
}

// high is a key with the highest bit, which no number has, set.
func high(k api.Key) api.Key {
	k[31] |= 128
	return k
}

// plain is Raw by the library, which tells a product of 0 as an error.
func plain(t *testing.T, secret, point api.Key) api.Key {
	t.Helper()
	s, err := ecdh.X25519().NewPrivateKey(secret[:])
	if err != nil {
		t.Fatal(err)
	}
	p, err := ecdh.X25519().NewPublicKey(point[:])
	if err != nil {
		t.Fatal(err)
	}
	k, err := s.ECDH(p)
	if err != nil {
		return api.Key{}
	}
	return api.Key(k)
}

// secrets has those of which all bits, none, or one alone are set, and others.
func secrets() []api.Key {
	l := []api.Key{{}, {1}, {9}, {31: 64}, {31: 128}, full(), api.Key(bytes.Repeat([]byte{85}, 32)), api.Key(bytes.Repeat([]byte{170}, 32))}
	for bit := range 256 {
		l = append(l, power(bit))
	}
	return append(l, noise(1, 40)...)
}

// few has some of those, for what is asked of each with each point.
func few() []api.Key {
	return append([]api.Key{{}, {8}, {31: 128}, full()}, noise(2, 4)...)
}

// inTurn is one of those: for what is asked of many points, each with one of them.
func inTurn(i int) api.Key {
	l := few()
	return l[i%len(l)]
}

// small are the points of small order, each as the one key that it has.
func small(t *testing.T) []api.Key {
	t.Helper()
	return []api.Key{
		{},
		{1},
		above(-1),
		unhex(t, "e0eb7a7c3b41b8ae1656e3faf19fc46ada098deb9c32b1fd866205165f49b800"),
		unhex(t, "5f9c95bca3508c24b1d0b1559c83ef5b04445cc4581c8e86d8224eddd09f1157"),
	}
}

// notWhole are all nineteen numbers that a key has room for, but for the highest bit, and that are not below p.
func notWhole() []api.Key {
	var l []api.Key
	for i := range 19 {
		l = append(l, above(i))
	}
	return l
}

// whole has points that may be: the least and the greatest ones, those about each power of 2, and others.
func whole() []api.Key {
	var l []api.Key
	for i := range 30 {
		l = append(l, api.Key{byte(i + 2)}, above(-2-i))
	}
	for bit := 6; bit < 255; bit++ {
		k := power(bit)
		k[0] |= 1
		l = append(l, ones(bit), power(bit), k)
	}
	for _, k := range noise(3, 100) {
		k[31] &= 63
		l = append(l, k)
	}
	return l
}

// G1

func TestClampOfAll(t *testing.T) {
	want := full()
	want[0], want[31] = 248, 127
	if k := ladder.Clamp(full()); k != want {
		t.Errorf("of thirty-two bytes 255: %x", k)
	}
	if k := ladder.Clamp(api.Key{}); k != (api.Key{31: 64}) {
		t.Errorf("of 0: %x", k)
	}
}

// TestClampOfEachBit: three bits go, one goes, one comes, and all others stay.
func TestClampOfEachBit(t *testing.T) {
	for bit := range 256 {
		var want api.Key
		if bit > 2 && bit != 255 {
			want = power(bit)
		}
		want[31] |= 64
		if k := ladder.Clamp(power(bit)); k != want {
			t.Errorf("bit %d set: %x", bit, k)
		}
	}
	for _, k := range noise(4, 200) {
		want := k
		want[0] -= k[0] % 8
		want[31] = k[31]%64 + 64
		if c := ladder.Clamp(k); c != want || ladder.Clamp(c) != c {
			t.Errorf("%x: %x", k, c)
		}
	}
}

// TestRawOfPrintedExamples: RFC 7748's, sections 5.2 and 6.1.
func TestRawOfPrintedExamples(t *testing.T) {
	for i, x := range [][3]string{
		{"a546e36bf0527c9d3b16154b82465edd62144c0ac1fc5a18506a2244ba449ac4", "e6db6867583030db3594c1a424b15f7c726624ec26b3353b10a903a6d0ab1c4c", "c3da55379de9c6908e94ea4df28d084f32eccf03491c71f754b4075577a28552"},
		{"4b66e9d4d1b4673c5ad22691957d6af5c11b6421e0ea01d42ca4169e7918ba0d", "e5210f12786811d3f4b7959d0538ae2c31dbe7106fc03c3efc4cd549c715a493", "95cbde9476e8907d7aade45cb4b873f88b595a68799fa152e6f8f7647aac7957"},
		{"77076d0a7318a57d3c16c17251b26645df4c2f87ebc0992ab177fba51db92c2a", "de9edb7d7b7dc1b4d35b61c2ece435373f8343c85b78674dadfc7e146f882b4f", "4a5d9d5ba4ce2de1728e3bf480350f25e07e21c947d19e3376f09b3c1e161742"},
		{"5dab087e624a8a4b79e17f8b83800ee66f3bb1292618b6fd1c2f8b27ff88e0eb", "8520f0098930a754748b7ddcb43ef75a0dbf3a0d26381af4eba4a98eaa9b4e6a", "4a5d9d5ba4ce2de1728e3bf480350f25e07e21c947d19e3376f09b3c1e161742"},
	} {
		if k := ladder.Raw(unhex(t, x[0]), unhex(t, x[1])); k != unhex(t, x[2]) {
			t.Errorf("%d: %x, want %s", i, k, x[2])
		}
	}
}

// TestRawOfItsOwnAnswers: RFC 7748's, section 5.2: each product is the next secret, and each secret the next point.
func TestRawOfItsOwnAnswers(t *testing.T) {
	secret, point := api.Key{9}, api.Key{9}
	for i := range 1000 {
		secret, point = ladder.Raw(secret, point), secret
		if i == 0 && secret != unhex(t, "422c8e7a6227d7bca1350b3e2bb7279f7897b87bb6854b783c60e80311ae3079") {
			t.Errorf("once: %x", secret)
		}
	}
	if secret != unhex(t, "684cf59ba83309552800ef566f2f4d3c1c3887c49360e3875f2eb94d99532c51") {
		t.Errorf("a thousand times: %x", secret)
	}
}

func TestRawOfEachSecret(t *testing.T) {
	for _, point := range append(noise(5, 1), above(-2)) {
		for _, secret := range secrets() {
			if k, want := ladder.Raw(secret, point), plain(t, secret, point); k != want {
				t.Errorf("%x by %x: %x, want %x", point, secret, k, want)
			}
		}
	}
}

// TestRawOfEachPoint: those that Mult refuses, too.
func TestRawOfEachPoint(t *testing.T) {
	for i, point := range slices.Concat(whole(), small(t), notWhole(), noise(6, 60)) {
		secret := inTurn(i)
		if k, want := ladder.Raw(secret, point), plain(t, secret, point); k != want {
			t.Errorf("%x by %x: %x, want %x", point, secret, k, want)
		}
	}
}

// TestRawTakesPointsModuloPrime: field.Of's number, so that some points have two keys, and each two more with the highest bit.
func TestRawTakesPointsModuloPrime(t *testing.T) {
	for _, secret := range few() {
		for i, point := range notWhole() {
			want := ladder.Raw(secret, api.Key{byte(i)})
			for _, k := range []api.Key{point, high(point), high(api.Key{byte(i)})} {
				if got := ladder.Raw(secret, k); got != want {
					t.Errorf("%x by %x: %x, want %x", k, secret, got, want)
				}
			}
		}
	}
}

func TestRawOfSmallOrderIsZero(t *testing.T) {
	for _, secret := range append(few(), noise(14, 8)...) {
		for _, point := range append(small(t), above(0), above(1), high(api.Key{}), high(api.Key{1})) {
			if k := ladder.Raw(secret, point); k != (api.Key{}) {
				t.Errorf("%x by %x: %x", point, secret, k)
			}
		}
	}
}

// TestRawClamps: secrets that are clamped to one are one.
func TestRawClamps(t *testing.T) {
	for i, secret := range few() {
		point := noise(int64(100+i), 1)[0]
		want := ladder.Raw(ladder.Clamp(secret), point)
		for _, turned := range []api.Key{{}, {1}, {2}, {4}, {7}, {31: 128}, {31: 64}, {7, 31: 192}} {
			other := secret
			other[0] ^= turned[0]
			other[31] ^= turned[31]
			if k := ladder.Raw(other, point); k != want {
				t.Errorf("%x by %x: %x, want %x", point, other, k, want)
			}
		}
	}
}

// G2

func TestMultOfWholePoints(t *testing.T) {
	for i, point := range whole() {
		secret := inTurn(i)
		want := plain(t, secret, point)
		if k, e := ladder.Mult(secret, point); k != want || e != api.OK || want == (api.Key{}) {
			t.Errorf("%x by %x: %x %v, want %x", point, secret, k, e, want)
		}
	}
}

func TestMultOfSmallOrder(t *testing.T) {
	for _, secret := range append(few(), noise(15, 8)...) {
		for _, point := range small(t) {
			if k, e := ladder.Mult(secret, point); k != (api.Key{}) || e != api.ErrPoint {
				t.Errorf("%x by %x: %x %v", point, secret, k, e)
			}
		}
	}
}

// TestMultOfWhatIsNotWhole: refused, though the product is not 0.
func TestMultOfWhatIsNotWhole(t *testing.T) {
	l := notWhole()
	for _, k := range slices.Concat(whole(), small(t), notWhole()) {
		l = append(l, high(k))
	}
	l = append(l, full(), api.Key{31: 128})
	for i, point := range l {
		if _, below := field.Of(point); below {
			t.Fatalf("%x is whole", point)
		}
		if k, e := ladder.Mult(inTurn(i), point); k != (api.Key{}) || e != api.ErrPoint {
			t.Errorf("%x by %x: %x %v", point, inTurn(i), k, e)
		}
	}
	if ladder.Raw(few()[3], above(2)) == (api.Key{}) {
		t.Error("the product is 0: it shows nothing")
	}
}

// TestMultAboutPrime: the greatest point that may be, and what is about it.
func TestMultAboutPrime(t *testing.T) {
	secret := noise(7, 1)[0]
	for n, want := range map[int]api.Errno{-3: api.OK, -2: api.OK, -1: api.ErrPoint, 0: api.ErrPoint, 1: api.ErrPoint, 2: api.ErrPoint, 3: api.ErrPoint, 18: api.ErrPoint} {
		if _, e := ladder.Mult(secret, above(n)); e != want {
			t.Errorf("p and %d: %v, want %v", n, e, want)
		}
	}
}

func TestPublic(t *testing.T) {
	if k := ladder.Public(api.Key{9}); k != unhex(t, "422c8e7a6227d7bca1350b3e2bb7279f7897b87bb6854b783c60e80311ae3079") {
		t.Errorf("of 9: %x", k)
	}
	if k := ladder.Public(unhex(t, "5dab087e624a8a4b79e17f8b83800ee66f3bb1292618b6fd1c2f8b27ff88e0eb")); k != unhex(t, "de9edb7d7b7dc1b4d35b61c2ece435373f8343c85b78674dadfc7e146f882b4f") {
		t.Errorf("of RFC 7748's, section 6.1: %x", k)
	}
	for _, secret := range secrets() {
		s, err := ecdh.X25519().NewPrivateKey(secret[:])
		if err != nil {
			t.Fatal(err)
		}
		k := ladder.Public(secret)
		if !bytes.Equal(k[:], s.PublicKey().Bytes()) || k != ladder.Raw(secret, api.Key{9}) {
			t.Errorf("%x: %x, want %x", secret, k, s.PublicKey().Bytes())
		}
	}
}

// G4

func TestBothShareOne(t *testing.T) {
	l := slices.Concat(few(), noise(8, 4))
	for i, a := range l {
		for _, b := range l[i:] {
			one, e := ladder.Mult(a, ladder.Public(b))
			other, f := ladder.Mult(b, ladder.Public(a))
			if one != other || e != api.OK || f != api.OK {
				t.Errorf("%x, %x: %x %v, %x %v", a, b, one, e, other, f)
			}
		}
	}
}

// TestOthersShareAnother: secrets that are not clamped to one share unlike keys with one public key.
func TestOthersShareAnother(t *testing.T) {
	point := ladder.Public(noise(9, 1)[0])
	seen := map[api.Key]api.Key{}
	for _, secret := range noise(10, 100) {
		k, e := ladder.Mult(secret, point)
		if other, ok := seen[k]; ok || e != api.OK {
			t.Errorf("%x, %x: one key %v", secret, other, e)
		}
		seen[k] = secret
	}
}
