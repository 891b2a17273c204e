package stream_test

import (
	"bytes"
	"encoding/binary"
	"encoding/hex"
	"math"
	"math/rand"
	"strings"
	"testing"

	"cablegram/api"
	"cablegram/stream"
)

// noise is of the same bytes each time.
func noise(seed int64, n int) []byte {
	b := make([]byte, n)
	rand.New(rand.NewSource(seed)).Read(b)
	return b
}

// run is of n bytes that count up.
func run(from byte, n int) []byte {
	b := make([]byte, n)
	for i := range b {
		b[i] = from + byte(i)
	}
	return b
}

func unhex(t *testing.T, s string) []byte {
	t.Helper()
	b, err := hex.DecodeString(strings.ReplaceAll(s, " ", ""))
	if err != nil {
		t.Fatal(s, err)
	}
	return b
}

func noisyWords(seed int64) stream.Words {
	var w stream.Words
	b := noise(seed, 64)
	for i := range w {
		w[i] = binary.LittleEndian.Uint32(b[4*i:])
	}
	return w
}

func left(x uint64, by uint) uint64 { return (x<<by | x>>(32-by)) % (1 << 32) }

// plainQuarter is D1 word by word, in numbers that are wide enough.
func plainQuarter(w stream.Words, a, b, c, d int) stream.Words {
	number := func(i int) int { return (i%16 + 16) % 16 }
	a, b, c, d = number(a), number(b), number(c), number(d)
	add := func(i, j int) { w[i] = uint32((uint64(w[i]) + uint64(w[j])) % (1 << 32)) }
	mix := func(i, j int, by uint) { w[i] = uint32(left(uint64(w[i]^w[j]), by)) }
	add(a, b)
	mix(d, a, 16)
	add(c, d)
	mix(b, c, 12)
	add(a, b)
	mix(d, a, 8)
	add(c, d)
	mix(b, c, 7)
	return w
}

// plainBlock is D2 by rows: diagonals are columns of rows that are turned by 0, 1, 2 and 3.
func plainBlock(key api.Key, counter uint32, nonce [12]byte) [64]byte {
	var first [64]byte
	copy(first[:], "expand 32-byte k")
	copy(first[16:], key[:])
	binary.LittleEndian.PutUint32(first[48:], counter)
	copy(first[52:], nonce[:])
	var rows [4][4]uint64
	for i := range 16 {
		rows[i/4][i%4] = uint64(binary.LittleEndian.Uint32(first[4*i:]))
	}
	step := func(sum, part, turned int, by uint) {
		for i := range 4 {
			rows[sum][i] = (rows[sum][i] + rows[part][i]) % (1 << 32)
			rows[turned][i] = left(rows[turned][i]^rows[sum][i], by)
		}
	}
	turn := func(by int) {
		for r := range rows {
			was := rows[r]
			for i := range 4 {
				rows[r][i] = was[(i+r*by)%4]
			}
		}
	}
	for range 10 {
		for _, by := range []int{1, 3} {
			step(0, 1, 3, 16)
			step(2, 3, 1, 12)
			step(0, 1, 3, 8)
			step(2, 3, 1, 7)
			turn(by)
		}
	}
	var out [64]byte
	for i := range 16 {
		sum := uint32(rows[i/4][i%4]) + binary.LittleEndian.Uint32(first[4*i:])
		binary.LittleEndian.PutUint32(out[4*i:], sum)
	}
	return out
}

// plainMix is D3 byte by byte.
func plainMix(key api.Key, counter uint32, nonce [12]byte, text []byte) []byte {
	out := make([]byte, len(text))
	for i := range text {
		block := plainBlock(key, uint32((uint64(counter)+uint64(i/64))%(1<<32)), nonce)
		out[i] = text[i] ^ block[i%64]
	}
	return out
}

// counters has some about those at which a byte, or all of it, is full.
func counters() []uint32 {
	return []uint32{0, 1, 2, 42, 255, 256, 1<<16 - 1, 1 << 16, 1<<24 + 7, 1<<31 - 1, 1 << 31, math.MaxUint32 - 1, math.MaxUint32}
}

// D1

func TestQuarterExample(t *testing.T) {
	w := stream.Words{0x11111111, 0x01020304, 0x9b8d6f43, 0x01234567, 4, 5, 6, 7, 8, 9, 10, 11, 12, 13, 14, 15}
	want := stream.Words{0xea2a92f4, 0xcb1cf8ce, 0x4581472e, 0x5881c4bb, 4, 5, 6, 7, 8, 9, 10, 11, 12, 13, 14, 15}
	if got := stream.Quarter(w, 0, 1, 2, 3); got != want {
		t.Errorf("%x", got)
	}
}

// TestQuarterOfPrintedExample is RFC 8439's: of words that do not stand side by side.
func TestQuarterOfPrintedExample(t *testing.T) {
	w := stream.Words{
		0x879531e0, 0xc5ecf37d, 0x516461b1, 0xc9a62f8a, 0x44c20ef3, 0x3390af7f, 0xd9fc690b, 0x2a5f714c,
		0x53372767, 0xb00a5631, 0x974c541a, 0x359e9963, 0x5c971061, 0x3d631689, 0x2098d9d6, 0x91dbd320,
	}
	want := stream.Words{
		0x879531e0, 0xc5ecf37d, 0xbdb886dc, 0xc9a62f8a, 0x44c20ef3, 0x3390af7f, 0xd9fc690b, 0xcfacafd2,
		0xe46bea80, 0xb00a5631, 0x974c541a, 0x359e9963, 0x5c971061, 0xccc07c79, 0x2098d9d6, 0x91dbd320,
	}
	if got := stream.Quarter(w, 2, 7, 8, 13); got != want {
		t.Errorf("%x", got)
	}
}

// TestQuarter is of all numbers, those too that are one number twice: what is done first is there for what is done next.
func TestQuarter(t *testing.T) {
	w := noisyWords(1)
	for i := range 1 << 16 {
		a, b, c, d := i%16, i/16%16, i/256%16, i/4096
		if got, want := stream.Quarter(w, a, b, c, d), plainQuarter(w, a, b, c, d); got != want {
			t.Fatalf("%d %d %d %d: %x, want %x", a, b, c, d, got, want)
		}
	}
	full := stream.Words{}
	for i := range full {
		full[i] = math.MaxUint32
	}
	for seed, w := range []stream.Words{{}, full, {1}, {1: 1 << 31}, noisyWords(2), noisyWords(3)} {
		if got, want := stream.Quarter(w, 0, 1, 2, 3), plainQuarter(w, 0, 1, 2, 3); got != want {
			t.Errorf("words %d: %x, want %x", seed, got, want)
		}
	}
}

func TestQuarterLeavesOtherWords(t *testing.T) {
	w := noisyWords(4)
	got := stream.Quarter(w, 3, 4, 9, 14)
	for i := range w {
		named := i == 3 || i == 4 || i == 9 || i == 14
		if (got[i] == w[i]) == named {
			t.Errorf("word %d: %x, was %x", i, got[i], w[i])
		}
	}
	if w != noisyWords(4) {
		t.Error("the words that were handed in are changed")
	}
}

// TestQuarterTakesNumbersModuloSixteen: by their lowest four bits, of those below 0 too.
func TestQuarterTakesNumbersModuloSixteen(t *testing.T) {
	w := noisyWords(5)
	for _, x := range []struct{ number, is int }{
		{16, 0}, {17, 1}, {31, 15}, {32, 0}, {255, 15}, {256, 0}, {1 << 32, 0}, {1<<32 + 5, 5},
		{-1, 15}, {-2, 14}, {-15, 1}, {-16, 0}, {-17, 15}, {-9, 7}, {-1 << 32, 0},
		{math.MaxInt, 15}, {math.MaxInt - 1, 14}, {math.MinInt, 0}, {math.MinInt + 1, 1},
	} {
		other := func(by int) int { return (x.is + by) % 16 }
		for place, pair := range [][2]stream.Words{
			{stream.Quarter(w, x.number, other(1), other(2), other(3)), stream.Quarter(w, x.is, other(1), other(2), other(3))},
			{stream.Quarter(w, other(1), x.number, other(2), other(3)), stream.Quarter(w, other(1), x.is, other(2), other(3))},
			{stream.Quarter(w, other(1), other(2), x.number, other(3)), stream.Quarter(w, other(1), other(2), x.is, other(3))},
			{stream.Quarter(w, other(1), other(2), other(3), x.number), stream.Quarter(w, other(1), other(2), other(3), x.is)},
			{stream.Quarter(w, x.number, x.number, x.number, x.number), plainQuarter(w, x.is, x.is, x.is, x.is)},
		} {
			if pair[0] != pair[1] {
				t.Errorf("%d in place %d: %x, want %x", x.number, place, pair[0], pair[1])
			}
		}
	}
}

// D2

// TestBlockOfPrintedExamples are RFC 8439's; the first is the chapter's.
func TestBlockOfPrintedExamples(t *testing.T) {
	for i, x := range []struct {
		key     api.Key
		counter uint32
		nonce   [12]byte
		want    string
	}{
		{api.Key(run(0, 32)), 1, [12]byte{3: 9, 7: 74}, "10f1e7e4d13b5915500fdd1fa32071c4c7d1f4c733c068030422aa9ac3d46c4ed2826446079faa0914c2d705d98b02a2b5129cd1de164eb9cbd083e8a2503c4e"},
		{api.Key{}, 0, [12]byte{}, "76b8e0ada0f13d90405d6ae55386bd28bdd219b8a08ded1aa836efcc8b770dc7da41597c5157488d7724e03fb8d84a376a43b8f41518a11cc387b669b2ee6586"},
		{api.Key{}, 1, [12]byte{}, "9f07e7be5551387a98ba977c732d080dcb0f29a048e3656912c6533e32ee7aed29b721769ce64e43d57133b074d839d531ed1f28510afb45ace10a1f4b794d6f"},
		{api.Key{31: 1}, 1, [12]byte{}, "3aeb5224ecf849929b9d828db1ced4dd832025e8018b8160b82284f3c949aa5a8eca00bbb4a73bdad192b5c42f73f2fd4e273644c8b36125a64addeb006c13a0"},
		{api.Key{1: 255}, 2, [12]byte{}, "72d54dfbf12ec44b362692df94137f328fea8da73990265ec1bbbea1ae9af0ca13b25aa26cb4a648cb9b9d1be65b2c0924a66c54d545ec1b7374f4872e99f096"},
		{api.Key{}, 0, [12]byte{11: 2}, "c2c64d378cd536374ae204b9ef933fcd1a8b2288b3dfa49672ab765b54ee27c78a970e0e955c14f3a88e741b97c286f75f8fc299e8148362fa198a39531bed6d"},
	} {
		if got := stream.Block(x.key, x.counter, x.nonce); !bytes.Equal(got[:], unhex(t, x.want)) {
			t.Errorf("%d: %x", i+1, got)
		}
	}
}

func TestBlock(t *testing.T) {
	for seed := range int64(50) {
		key, nonce := api.Key(noise(seed, 32)), [12]byte(noise(seed+1000, 12))
		for _, counter := range append(counters(), uint32(seed*0x01234567)) {
			if got, want := stream.Block(key, counter, nonce), plainBlock(key, counter, nonce); got != want {
				t.Errorf("key %d, counter %d: %x, want %x", seed, counter, got, want)
			}
		}
	}
}

// TestBlockSeesAllOfIt: each bit of key, counter and nonce.
func TestBlockSeesAllOfIt(t *testing.T) {
	begin := noise(6, 48)
	block := func(b []byte) [64]byte {
		return stream.Block(api.Key(b[:32]), binary.LittleEndian.Uint32(b[32:]), [12]byte(b[36:]))
	}
	seen := map[[64]byte]int{block(begin): -1}
	for bit := range 8 * len(begin) {
		other := bytes.Clone(begin)
		other[bit/8] ^= 1 << (bit % 8)
		b := block(other)
		if at, ok := seen[b]; ok {
			t.Errorf("bits %d and %d: the same", bit, at)
		}
		seen[b] = bit
	}
}

// TestBlockIsMadeOfQuarters: ten times the eight, and what it was at first.
func TestBlockIsMadeOfQuarters(t *testing.T) {
	key, counter, nonce := api.Key(noise(7, 32)), uint32(0x89abcdef), [12]byte(noise(8, 12))
	first := stream.Words{0x61707865, 0x3320646e, 0x79622d32, 0x6b206574, 12: counter}
	for i := range 8 {
		first[4+i] = binary.LittleEndian.Uint32(key[4*i:])
	}
	for i := range 3 {
		first[13+i] = binary.LittleEndian.Uint32(nonce[4*i:])
	}
	w := first
	for range 10 {
		for _, q := range [][4]int{{0, 4, 8, 12}, {1, 5, 9, 13}, {2, 6, 10, 14}, {3, 7, 11, 15}, {0, 5, 10, 15}, {1, 6, 11, 12}, {2, 7, 8, 13}, {3, 4, 9, 14}} {
			w = stream.Quarter(w, q[0], q[1], q[2], q[3])
		}
	}
	var want []byte
	for i := range w {
		want = binary.LittleEndian.AppendUint32(want, w[i]+first[i])
	}
	if got := stream.Block(key, counter, nonce); !bytes.Equal(got[:], want) {
		t.Errorf("%x, want %x", got, want)
	}
}

// D3

// TestMixOfPrintedExamples are RFC 8439's.
func TestMixOfPrintedExamples(t *testing.T) {
	for i, x := range []struct {
		key     api.Key
		counter uint32
		nonce   [12]byte
		text    string
		want    string
	}{
		{api.Key(run(0, 32)), 1, [12]byte{7: 74},
			"Ladies and Gentlemen of the class of '99: If I could offer you only one tip for the future, sunscreen would be it.",
			"6e2e359a2568f98041ba0728dd0d6981e97e7aec1d4360c20a27afccfd9fae0bf91b65c5524733ab8f593dabcd62b3571639d624e65152ab8f530c359f0861d807ca0dbf500d6a6156a38e088a22b65e52bc514d16ccf806818ce91ab77937365af90bbf74a35be6b40b8eedf2785e42874d"},
		{api.Key{}, 0, [12]byte{}, strings.Repeat("\x00", 64),
			"76b8e0ada0f13d90405d6ae55386bd28bdd219b8a08ded1aa836efcc8b770dc7da41597c5157488d7724e03fb8d84a376a43b8f41518a11cc387b669b2ee6586"},
		{api.Key(unhex(t, "1c9240a5eb55d38af333888604f6b5f0473917c1402b80099dca5cbc207075c0")), 42, [12]byte{11: 2},
			"'Twas brillig, and the slithy toves\nDid gyre and gimble in the wabe:\nAll mimsy were the borogoves,\nAnd the mome raths outgrabe.",
			"62e6347f95ed87a45ffae7426f27a1df5fb69110044c0d73118effa95b01e5cf166d3df2d721caf9b21e5fb14c616871fd84c54f9d65b283196c7fe4f60553ebf39c6402c42234e32a356b3e764312a61a5532055716ead6962568f87d3f3f7704c6a8d1bcd1bf4d50d6154b6da731b187b58dfd728afa36757a797ac188d1"},
	} {
		if got, e := stream.Mix(x.key, x.counter, x.nonce, []byte(x.text)); e != api.OK || !bytes.Equal(got, unhex(t, x.want)) {
			t.Errorf("%d: %x %v", i+1, got, e)
		}
	}
}

// TestMixGoesOnAtZero: behind the highest counter; the bytes are those of another program.
func TestMixGoesOnAtZero(t *testing.T) {
	key, nonce := api.Key(run(0x80, 32)), [12]byte(run(0x40, 12))
	want := unhex(t, "1beed2e203a160fe9a91be1b007ed2923af57c0ddd3fe33761ca9d9c02400cbea8346412d0e6bedb17cb56750abeeec1018745635862bc9187c162b4025b45ed"+
		"5389748eb5f2bf78ce60dc7ed4ed234ca5bcad944b5d630d5033aa894524eab4d85fc8911fdd92d3dfa769ebff2e48e260bf7feb71c1bd1fe04d7cb040f8e106")
	if got, e := stream.Mix(key, math.MaxUint32, nonce, make([]byte, 128)); e != api.OK || !bytes.Equal(got, want) {
		t.Errorf("%x %v", got, e)
	}
}

func TestMix(t *testing.T) {
	for i, counter := range counters() {
		key, nonce := api.Key(noise(int64(i), 32)), [12]byte(noise(int64(i)+100, 12))
		for _, n := range []int{0, 1, 2, 31, 63, 64, 65, 127, 128, 129, 200, 264, 1000} {
			text := noise(int64(n)+200, n)
			if got, e := stream.Mix(key, counter, nonce, text); e != api.OK || !bytes.Equal(got, plainMix(key, counter, nonce, text)) {
				t.Errorf("counter %d, %d bytes: %x %v", counter, n, got, e)
			}
		}
	}
}

// TestMixOfEverySize: a shorter text's is what a longer one's begins with, up to the longest.
func TestMixOfEverySize(t *testing.T) {
	key, counter, nonce := api.Key(noise(9, 32)), uint32(math.MaxUint32-30), [12]byte(noise(10, 12))
	text := noise(11, 4000)
	whole := plainMix(key, counter, nonce, text)
	for n := range len(text) + 1 {
		if got, e := stream.Mix(key, counter, nonce, text[:n]); e != api.OK || !bytes.Equal(got, whole[:n]) {
			t.Fatalf("%d bytes: %x %v", n, got, e)
		}
	}
}

func TestMixOfLongText(t *testing.T) {
	for n, want := range map[int]api.Errno{3999: api.OK, 4000: api.OK, 4001: api.ErrLong, 4032: api.ErrLong, 4096: api.ErrLong, 8000: api.ErrLong, 1 << 20: api.ErrLong} {
		got, e := stream.Mix(api.Key{1}, 1, [12]byte{2}, make([]byte, n))
		if e != want || e == api.OK && len(got) != n || e != api.OK && len(got) != 0 {
			t.Errorf("%d bytes: %d %v", n, len(got), e)
		}
	}
}

func TestMixOfNothing(t *testing.T) {
	for _, text := range [][]byte{nil, {}} {
		for _, counter := range counters() {
			if got, e := stream.Mix(api.Key{1}, counter, [12]byte{2}, text); len(got) != 0 || e != api.OK {
				t.Errorf("counter %d: %x %v", counter, got, e)
			}
		}
	}
}

// D4

func TestMixTwice(t *testing.T) {
	for i, counter := range counters() {
		key, nonce := api.Key(noise(int64(i)+300, 32)), [12]byte(noise(int64(i)+400, 12))
		for _, n := range []int{0, 1, 63, 64, 65, 129, 3999, 4000} {
			text := noise(int64(n)+500, n)
			mixed, e := stream.Mix(key, counter, nonce, text)
			if n >= 63 && bytes.Equal(mixed, text) {
				t.Errorf("counter %d, %d bytes: not mixed", counter, n)
			}
			again, e2 := stream.Mix(key, counter, nonce, mixed)
			if e != api.OK || e2 != api.OK || !bytes.Equal(again, text) {
				t.Errorf("counter %d, %d bytes: %v %v", counter, n, e, e2)
			}
		}
	}
}

func TestMixFurtherOn(t *testing.T) {
	key, nonce, text := api.Key(noise(12, 32)), [12]byte(noise(13, 12)), noise(14, 1000)
	for _, counter := range counters() {
		whole, _ := stream.Mix(key, counter, nonce, text)
		for i := range len(text)/64 + 1 {
			rest, e := stream.Mix(key, counter+uint32(i), nonce, text[64*i:])
			if e != api.OK || !bytes.Equal(rest, whole[64*i:]) {
				t.Errorf("counter %d, %d bytes on: %v", counter, 64*i, e)
			}
		}
	}
}

// R5, R6: what is handed in is not changed, nor shared; a call is like the one before.

func TestMixChangesNothingHandedIn(t *testing.T) {
	room := noise(15, 300)
	for _, n := range []int{0, 1, 64, 100, 200} {
		got, _ := stream.Mix(api.Key{1}, 1, [12]byte{2}, room[:n])
		if !bytes.Equal(room, noise(15, 300)) {
			t.Fatalf("%d bytes: what was handed in is changed", n)
		}
		want := bytes.Clone(got)
		clear(room)
		if !bytes.Equal(got, want) {
			t.Errorf("%d bytes: the answer hangs on what was handed in", n)
		}
		copy(room, noise(15, 300))
		for i := range got {
			got[i] = 'X'
		}
		_ = append(got, 'X')
		if again, _ := stream.Mix(api.Key{1}, 1, [12]byte{2}, room[:n]); !bytes.Equal(again, want) || !bytes.Equal(room, noise(15, 300)) {
			t.Errorf("%d bytes: an answer was changed, and with it another one", n)
		}
	}
}
