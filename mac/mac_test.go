package mac_test

import (
	"bytes"
	"crypto/hkdf"
	"crypto/hmac"
	"crypto/sha256"
	"encoding/hex"
	"math"
	"math/rand"
	"slices"
	"strings"
	"sync"
	"testing"

	"cablegram/api"
	"cablegram/mac"
	"cablegram/sha"
)

// noise is of the same bytes each time.
func noise(seed int64, n int) []byte {
	b := make([]byte, n)
	rand.New(rand.NewSource(seed)).Read(b)
	return b
}

func unhex(t *testing.T, s string) []byte {
	t.Helper()
	b, err := hex.DecodeString(strings.ReplaceAll(s, " ", ""))
	if err != nil {
		t.Fatal(s, err)
	}
	return b
}

func libraryMAC(key, text []byte) api.Key {
	h := hmac.New(sha256.New, key)
	h.Write(text)
	return api.Key(h.Sum(nil))
}

func libraryExpand(t *testing.T, key api.Key, info []byte, n int) []byte {
	t.Helper()
	b, err := hkdf.Expand(sha256.New, key[:], string(info), n)
	if err != nil {
		t.Fatal(n, err)
	}
	return b
}

func sameLists(a, b [][]byte) bool { return slices.EqualFunc(a, b, bytes.Equal) }

// meters has one of each kind.
func meters() []*sha.Meter { return []*sha.Meter{nil, sha.New(false), sha.New(true)} }

// keys has some of sizes about that of a block, which is the last that is not digested.
func keys() [][]byte {
	l := [][]byte{nil, {}, {0}, []byte("Jefe"), make([]byte, 64), make([]byte, 65)}
	for _, n := range []int{1, 31, 32, 33, 62, 63, 64, 65, 66, 127, 128, 129, 131, 4000} {
		l = append(l, noise(int64(n), n))
	}
	return l
}

// C1

func TestSumExample(t *testing.T) {
	want := unhex(t, "5bdcc146 bf60754e 6a042426 089575c7 5a003f08 9d273983 9dec58b9 64ec3843")
	if got := mac.Sum(nil, []byte("Jefe"), []byte("what do ya want for nothing?")); !bytes.Equal(got[:], want) {
		t.Errorf("%x", got)
	}
}

// TestSumOfPrintedExamples are RFC 4231's.
func TestSumOfPrintedExamples(t *testing.T) {
	fill := func(b byte, n int) string { return strings.Repeat(string([]byte{b}), n) }
	for i, x := range []struct{ key, text, want string }{
		{fill(0x0b, 20), "Hi There", "b0344c61d8db38535ca8afceaf0bf12b881dc200c9833da726e9376c2e32cff7"},
		{"Jefe", "what do ya want for nothing?", "5bdcc146bf60754e6a042426089575c75a003f089d2739839dec58b964ec3843"},
		{fill(0xaa, 20), fill(0xdd, 50), "773ea91e36800e46854db8ebd09181a72959098b3ef8c122d9635514ced565fe"},
		{string(unhex(t, "0102030405060708090a0b0c0d0e0f10111213141516171819")), fill(0xcd, 50), "82558a389a443c0ea4cc819899f2083a85f0faa3e578f8077a2e3ff46729665b"},
		{fill(0x0c, 20), "Test With Truncation", "a3b6167473100ee06e0c796c2955552b"},
		{fill(0xaa, 131), "Test Using Larger Than Block-Size Key - Hash Key First", "60e431591ee0b67f0d8a26aacbf5b77f8e0bc6213728c5140546040f0ee37f54"},
		{fill(0xaa, 131), "This is a test using a larger than block-size key and a larger than block-size data. The key needs to be hashed before being used by the HMAC algorithm.", "9b09ffa71b942fcb27635fbcd5b0e944bfdc63644f0713938a7f51535c3a35e2"},
	} {
		want := unhex(t, x.want)
		if got := mac.Sum(nil, []byte(x.key), []byte(x.text)); !bytes.Equal(got[:len(want)], want) {
			t.Errorf("%d: %x", i+1, got)
		}
	}
}

func TestSum(t *testing.T) {
	for _, m := range meters() {
		for _, key := range keys() {
			for _, n := range []int{0, 1, 3, 32, 55, 56, 63, 64, 65, 119, 120, 128, 1000} {
				text := noise(int64(n)+100, n)
				if got, want := mac.Sum(m, key, text), libraryMAC(key, text); got != want {
					t.Errorf("a key of %d, a text of %d: %x, want %x", len(key), n, got, want)
				}
			}
		}
	}
}

func TestSumOfNothing(t *testing.T) {
	for _, key := range keys() {
		want := libraryMAC(key, nil)
		for i, got := range []api.Key{mac.Sum(nil, key), mac.Sum(nil, key, nil), mac.Sum(nil, key, []byte{}), mac.Sum(nil, key, nil, []byte{}, nil), mac.Sum(nil, key, [][]byte{}...)} {
			if got != want {
				t.Errorf("a key of %d, %d: %x, want %x", len(key), i, got, want)
			}
		}
	}
}

func TestSumOfListsCutAnywhere(t *testing.T) {
	for _, key := range [][]byte{[]byte("key"), noise(1, 64), noise(2, 100)} {
		text := noise(3, 70)
		want := libraryMAC(key, text)
		for i := range len(text) + 1 {
			for _, j := range []int{i, (i + len(text)) / 2, len(text)} {
				if got := mac.Sum(nil, key, text[:i], nil, text[i:j], text[j:]); got != want {
					t.Errorf("a key of %d, cut at %d and %d: %x, want %x", len(key), i, j, got, want)
				}
			}
		}
	}
	if mac.Sum(nil, nil, []byte("a"), []byte("bc")) == mac.Sum(nil, nil, []byte("bc"), []byte("a")) {
		t.Error("turned round: the same")
	}
}

// TestSumSeesTheWholeKey: each bit of it, and of the digest of a long one.
func TestSumSeesTheWholeKey(t *testing.T) {
	for _, n := range []int{1, 32, 64, 65, 100} {
		key := noise(int64(n), n)
		seen := map[api.Key]int{mac.Sum(nil, key, []byte("abc")): -1}
		for bit := range 8 * n {
			other := bytes.Clone(key)
			other[bit/8] ^= 1 << (bit % 8)
			k := mac.Sum(nil, other, []byte("abc"))
			if at, ok := seen[k]; ok {
				t.Errorf("a key of %d, bits %d and %d: the same", n, at, bit)
			}
			seen[k] = bit
		}
	}
}

// TestSumIsOfTwoDigests: chapter 2 asks that the inner one and the outer one are the Meter's, and of a long key its digest.
func TestSumIsOfTwoDigests(t *testing.T) {
	text := []byte("what do ya want for nothing?")
	for _, key := range keys() {
		var want [][]byte
		block := make([]byte, 64)
		if len(key) > 64 {
			want = append(want, key)
			k := sha256.Sum256(key)
			copy(block, k[:])
		} else {
			copy(block, key)
		}
		var in, out []byte
		for _, b := range block {
			in, out = append(in, b^0x36), append(out, b^0x5c)
		}
		inner := sha256.Sum256(append(bytes.Clone(in), text...))
		want = append(want, append(in, text...), append(out, inner[:]...))
		m := sha.New(true)
		mac.Sum(m, key, text[:5], text[5:])
		if got := m.Inputs(); m.Count() != len(want) || !sameLists(got, want) {
			t.Errorf("a key of %d: %d %x, want %x", len(key), m.Count(), got, want)
		}
	}
}

// C2

func TestExtract(t *testing.T) {
	for _, m := range meters() {
		for _, salt := range keys() {
			for _, secret := range keys() {
				got := mac.Extract(m, salt, secret)
				if want := libraryMAC(salt, secret); got != want {
					t.Errorf("a salt of %d, a secret of %d: %x, want %x", len(salt), len(secret), got, want)
				}
			}
		}
	}
	m := sha.New(true)
	mac.Extract(m, []byte("salt"), []byte("secret"))
	want := sha.New(true)
	mac.Sum(want, []byte("salt"), []byte("secret"))
	if !sameLists(m.Inputs(), want.Inputs()) {
		t.Errorf("%x, want %x", m.Inputs(), want.Inputs())
	}
}

// TestExpandOfPrintedExamples are RFC 5869's with SHA-256.
func TestExpandOfPrintedExamples(t *testing.T) {
	run := func(from, n int) []byte {
		b := make([]byte, n)
		for i := range b {
			b[i] = byte(from + i)
		}
		return b
	}
	for i, x := range []struct {
		secret, salt, info []byte
		n                  int
		key, want          string
	}{
		{bytes.Repeat([]byte{0x0b}, 22), run(0, 13), run(0xf0, 10), 42,
			"077709362c2e32df0ddc3f0dc47bba6390b6c73bb50f9c3122ec844ad7c2b3e5",
			"3cb25f25faacd57a90434f64d0362f2a2d2d0a90cf1a5a4c5db02d56ecc4c5bf34007208d5b887185865"},
		{run(0, 80), run(0x60, 80), run(0xb0, 80), 82,
			"06a6b88c5853361a06104c9ceb35b45cef760014904671014a193f40c15fc244",
			"b11e398dc80327a1c8e7f78c596a49344f012eda2d4efad8a050cc4c19afa97c59045a99cac7827271cb41c65e590e09da3275600c2f09b8367793a9aca3db71cc30c58179ec3e87c14c01d5c1f3434f1d87"},
		{bytes.Repeat([]byte{0x0b}, 22), nil, nil, 42,
			"19ef24a32c717b167f33a91d6f648bdf96596776afdb6377ac434c1c293ccb04",
			"8da4e775a563c18f715f802a063c5a31b8a11f5c5ee1879ec3454e5f3c738d2d9d201395faa4b61a96c8"},
	} {
		k := mac.Extract(nil, x.salt, x.secret)
		if !bytes.Equal(k[:], unhex(t, x.key)) {
			t.Errorf("%d: Extract %x", i+1, k)
		}
		if b, e := mac.Expand(nil, k, x.info, x.n); e != api.OK || !bytes.Equal(b, unhex(t, x.want)) {
			t.Errorf("%d: Expand %x %v", i+1, b, e)
		}
	}
}

func TestExpand(t *testing.T) {
	for _, m := range meters() {
		for i, info := range [][]byte{nil, {}, {0}, []byte("info"), noise(4, 64), noise(5, 300)} {
			key := api.Key(noise(int64(i), 32))
			for _, n := range []int{0, 1, 2, 31, 32, 33, 63, 64, 65, 96, 200, 8127, 8128, 8129, 8159, 8160} {
				if got, e := mac.Expand(m, key, info, n); e != api.OK || !bytes.Equal(got, libraryExpand(t, key, info, n)) {
					t.Errorf("info %d, %d bytes: %x %v", i, n, got, e)
				}
			}
		}
	}
}

// TestExpandOfEverySize: a shorter one is what a longer one begins with.
func TestExpandOfEverySize(t *testing.T) {
	key := api.Key(noise(6, 32))
	whole := libraryExpand(t, key, []byte("info"), 8160)
	for n := 0; n <= 8160; n += 1 + n/100 {
		if got, e := mac.Expand(nil, key, []byte("info"), n); e != api.OK || !bytes.Equal(got, whole[:n]) {
			t.Errorf("%d bytes: %x %v", n, got, e)
		}
	}
}

func TestExpandToWrongSize(t *testing.T) {
	for _, n := range []int{-1, -31, -32, -8160, -8161, math.MinInt, math.MinInt + 1, 8161, 8192, 8193, 1 << 31, 1 << 32, 1<<32 + 32, math.MaxInt - 31, math.MaxInt} {
		m := sha.New(true)
		for _, x := range []*sha.Meter{nil, m} {
			if b, e := mac.Expand(x, api.Key{1}, []byte("info"), n); len(b) != 0 || e != api.ErrArg {
				t.Errorf("to %d: %d bytes, %v", n, len(b), e)
			}
		}
		if m.Count() != 0 || len(m.Inputs()) != 0 {
			t.Errorf("to %d: %d digests", n, m.Count())
		}
	}
}

func TestExpandToNothing(t *testing.T) {
	m := sha.New(true)
	if b, e := mac.Expand(m, api.Key{1}, []byte("info"), 0); len(b) != 0 || e != api.OK || m.Count() != 0 {
		t.Error(b, e, m.Count())
	}
}

// TestExpandMakesNoMoreThanItNeeds: two digests each thirty-two bytes, or a part of them, in T1's order.
func TestExpandMakesNoMoreThanItNeeds(t *testing.T) {
	key, info := api.Key(noise(7, 32)), []byte("info")
	for n, count := range map[int]int{1: 1, 31: 1, 32: 1, 33: 2, 64: 2, 65: 3, 8128: 254, 8129: 255, 8160: 255} {
		m, want := sha.New(true), sha.New(true)
		mac.Expand(m, key, info, n)
		var last []byte
		for i := range count {
			k := mac.Sum(want, key[:], last, info, []byte{byte(i + 1)})
			last = k[:]
		}
		if m.Count() != 2*count || !sameLists(m.Inputs(), want.Inputs()) {
			t.Errorf("%d bytes: %d digests, want %d", n, m.Count(), 2*count)
		}
	}
}

// C3

// info is a purpose's, as C3's words say.
func info(label string, l ...[]byte) []byte {
	if len(label) > 255 {
		label = label[:255]
	}
	out := append([]byte{byte(len(label))}, label...)
	for _, b := range l {
		n := len(b)
		out = append(out, byte(n/16777216), byte(n/65536), byte(n/256), byte(n))
		out = append(out, b...)
	}
	return out
}

func TestDerive(t *testing.T) {
	key := api.Key(noise(8, 32))
	for _, m := range meters() {
		for i, label := range []string{"", "x", "a label", "\x00", "\xff\xfe", "é", strings.Repeat("l", 254), strings.Repeat("l", 255), strings.Repeat("l", 256), strings.Repeat("l", 257), strings.Repeat("é", 200), strings.Repeat("0123456789", 1000)} {
			for j, l := range [][][]byte{nil, {}, {nil}, {{}}, {nil, nil}, {[]byte("ab"), []byte("c")}, {nil, []byte("abc")}, {make([]byte, 255)}, {make([]byte, 256), {1}}, {noise(9, 65535)}, {noise(10, 65536)}} {
				want := api.Key(libraryExpand(t, key, info(label, l...), 32))
				if got := mac.Derive(m, key, label, l...); got != want {
					t.Errorf("label %d, lists %d: %x, want %x", i, j, got, want)
				}
			}
		}
	}
}

// TestDeriveTellsAllFourBytesOfASize: a list must be that long to fill the highest one.
func TestDeriveTellsAllFourBytesOfASize(t *testing.T) {
	key, long := api.Key{1}, make([]byte, 1<<24+1<<16+1<<8+1)
	want := api.Key(libraryExpand(t, key, info("x", long), 32))
	if got := mac.Derive(nil, key, "x", long); got != want {
		t.Errorf("%x, want %x", got, want)
	}
}

func TestDeriveExample(t *testing.T) {
	key := api.Key(noise(12, 32))
	one := mac.Derive(nil, key, "x", []byte("ab"), []byte("c"))
	two, e := mac.Expand(nil, key, []byte("\x01x\x00\x00\x00\x02ab\x00\x00\x00\x01c"), 32)
	if e != api.OK || !bytes.Equal(one[:], two) {
		t.Errorf("%x, and %x %v", one, two, e)
	}
}

func TestDeriveOfLongLabel(t *testing.T) {
	key, label := api.Key{1}, strings.Repeat("l", 254)
	long := mac.Derive(nil, key, label+"ab", []byte("abc"))
	if mac.Derive(nil, key, label+"a", []byte("abc")) != long || mac.Derive(nil, key, label+"ac", []byte("abc")) != long {
		t.Error("what stands behind 255 bytes is told")
	}
	if mac.Derive(nil, key, label, []byte("abc")) == long || mac.Derive(nil, key, label+"b", []byte("abc")) == long {
		t.Error("byte 255 is not told")
	}
}

func TestDeriveIsOfTwoDigests(t *testing.T) {
	key := api.Key(noise(13, 32))
	m, want := sha.New(true), sha.New(true)
	mac.Derive(m, key, "x", []byte("ab"), nil)
	mac.Sum(want, key[:], info("x", []byte("ab"), nil), []byte{1})
	if m.Count() != 2 || !sameLists(m.Inputs(), want.Inputs()) {
		t.Errorf("%x, want %x", m.Inputs(), want.Inputs())
	}
}

func TestDeriveSeesTheWholeKey(t *testing.T) {
	seen := map[api.Key]int{mac.Derive(nil, api.Key{}, "x"): -1}
	for bit := range 256 {
		var key api.Key
		key[bit/8] = 1 << (bit % 8)
		k := mac.Derive(nil, key, "x")
		if at, ok := seen[k]; ok {
			t.Errorf("bits %d and %d: the same", at, bit)
		}
		seen[k] = bit
	}
}

// C4

// TestUnlikePurposesHaveUnlikeInfos goes through labels and up to three lists that look like pieces of each other, their sizes among them.
func TestUnlikePurposesHaveUnlikeInfos(t *testing.T) {
	labels := []string{"", "x", "y", "xy", "\x00", "\x01", "\x01x", "x\x00\x00\x00\x01", "x\x00\x00\x00\x01a", "\x00\x00\x00\x00", strings.Repeat("x", 254), strings.Repeat("x", 255), strings.Repeat("x", 254) + "y"}
	pieces := [][]byte{nil, {0}, []byte("a"), []byte("ab"), []byte("b"), []byte("abc"), []byte("a\x00\x00\x00\x01b"), {0, 0, 0, 0}, {0, 0, 0, 1}, make([]byte, 256)}
	all := [][][]byte{nil}
	for from := 0; len(all[from]) < 3; from++ {
		for _, p := range pieces {
			all = append(all, append(slices.Clip(all[from]), p))
		}
	}
	keysSeen, infosSeen := map[api.Key]string{}, map[string]string{}
	for _, label := range labels {
		for _, l := range all {
			m := sha.New(true)
			k := mac.Derive(m, api.Key{5}, label, l...)
			what := hex.EncodeToString([]byte(label))
			for _, b := range l {
				what += "," + hex.EncodeToString(b)
			}
			inner := string(m.Inputs()[0][64:])
			if other, ok := infosSeen[inner]; ok {
				t.Fatalf("%s and %s: one info", other, what)
			}
			if other, ok := keysSeen[k]; ok {
				t.Fatalf("%s and %s: one key", other, what)
			}
			keysSeen[k], infosSeen[inner] = what, what
		}
	}
	if len(infosSeen) != len(labels)*1111 {
		t.Error(len(infosSeen))
	}
}

// R4, R5, R6: nothing handed in is changed, answers are lists of their own, and a Meter changes none.

func TestNothingHandedInIsChanged(t *testing.T) {
	room := bytes.Repeat([]byte{9}, 300)
	long := bytes.Repeat([]byte{8}, 300)
	b, key := room[:3], long[:100]
	more := [][]byte{b, []byte("d"), []byte("e"), []byte("f")}
	for _, m := range meters() {
		mac.Sum(m, b, more[:1]...)
		mac.Sum(m, key, more[:2]...)
		mac.Extract(m, b, key)
		mac.Extract(m, key, b)
		mac.Expand(m, api.Key{1}, b, 100)
		mac.Derive(m, api.Key{1}, "x", more[:2]...)
	}
	if !bytes.Equal(room, bytes.Repeat([]byte{9}, 300)) || !bytes.Equal(long, bytes.Repeat([]byte{8}, 300)) {
		t.Error(room, long)
	}
	if !sameLists(more, [][]byte{{9, 9, 9}, []byte("d"), []byte("e"), []byte("f")}) {
		t.Error(more)
	}
}

func TestAnswersAreTheirOwn(t *testing.T) {
	m := sha.New(true)
	b, _ := mac.Expand(m, api.Key{1}, []byte("info"), 64)
	kept := m.Inputs()
	want := bytes.Clone(b)
	for i := range b {
		b[i] = 77
	}
	if !sameLists(m.Inputs(), kept) {
		t.Error("what a Meter keeps is changed")
	}
	if again, _ := mac.Expand(m, api.Key{1}, []byte("info"), 64); !bytes.Equal(again, want) {
		t.Errorf("%x, want %x", again, want)
	}
}

func TestMeterUsedBySeveral(t *testing.T) {
	const several, each = 8, 50
	m := sha.New(true)
	var all sync.WaitGroup
	for who := range several {
		all.Go(func() {
			key := api.Key(noise(int64(who), 32))
			for i := range each {
				text := noise(int64(i), 40)
				if got, want := mac.Sum(m, key[:], text), libraryMAC(key[:], text); got != want {
					t.Errorf("%d, %d: %x, want %x", who, i, got, want)
				}
			}
		})
	}
	all.Wait()
	if m.Count() != 2*several*each {
		t.Error(m.Count())
	}
}
