package sha_test

import (
	"bytes"
	"crypto/sha256"
	"encoding"
	"encoding/binary"
	"math"
	"math/big"
	"math/rand"
	"strings"
	"testing"

	"cablegram/api"
	"cablegram/octets"
	"cablegram/sha"
)

// begin is what a digest begins with, as FIPS 180-4 prints it.
var begin = [8]uint32{0x6a09e667, 0xbb67ae85, 0x3c6ef372, 0xa54ff53a, 0x510e527f, 0x9b05688c, 0x1f83d9ab, 0x5be0cd19}

// sizes stand about the edges of a block: 55 and 56 (the Pad needs one more), 63 and 64, and of two and three.
var sizes = []int{0, 1, 2, 3, 54, 55, 56, 57, 62, 63, 64, 65, 118, 119, 120, 121, 126, 127, 128, 129, 183, 184, 191, 192, 193, 1000, 4000}

// noise is of the same bytes each time.
func noise(seed int64, n int) []byte {
	b := make([]byte, n)
	rand.New(rand.NewSource(seed)).Read(b)
	return b
}

func unhex(t *testing.T, s string) api.Key {
	t.Helper()
	b, e := octets.Unhex(strings.ReplaceAll(s, " ", ""))
	if e != api.OK {
		t.Fatal(s, e)
	}
	k, e := octets.ToKey(b)
	if e != api.OK {
		t.Fatal(s, e)
	}
	return k
}

// libraryBlock sets the library's digest to a state, and tells which one it is in behind a block.
func libraryBlock(t *testing.T, state [8]uint32, block [64]byte) [8]uint32 {
	t.Helper()
	inner := []byte("sha\x03")
	for _, word := range state {
		inner = binary.BigEndian.AppendUint32(inner, word)
	}
	inner = append(inner, make([]byte, 64+8)...)
	h := sha256.New()
	if err := h.(encoding.BinaryUnmarshaler).UnmarshalBinary(inner); err != nil {
		t.Fatal(err)
	}
	h.Write(block[:])
	after, err := h.(encoding.BinaryMarshaler).MarshalBinary()
	if err != nil {
		t.Fatal(err)
	}
	var out [8]uint32
	for i := range out {
		out[i] = binary.BigEndian.Uint32(after[4+4*i:])
	}
	return out
}

// plainBlock reckons as B1's words say, with k made of its rule.
func plainBlock(state [8]uint32, block [64]byte) [8]uint32 {
	right := func(x uint32, n int) uint32 { return x>>n | x<<(32-n) }
	k := cubeRoots()
	var w [64]uint32
	for i := range w {
		if i < 16 {
			w[i] = binary.BigEndian.Uint32(block[4*i:])
			continue
		}
		x, y := w[i-15], w[i-2]
		s0 := right(x, 7) ^ right(x, 18) ^ x>>3
		s1 := right(y, 17) ^ right(y, 19) ^ y>>10
		w[i] = w[i-16] + s0 + w[i-7] + s1
	}
	v := state
	for i := range w {
		a, b, c, e, f, g := v[0], v[1], v[2], v[4], v[5], v[6]
		t1 := v[7] + (right(e, 6) ^ right(e, 11) ^ right(e, 25)) + ((e & f) ^ (^e & g)) + k[i] + w[i]
		t2 := (right(a, 2) ^ right(a, 13) ^ right(a, 22)) + ((a & b) ^ (a & c) ^ (b & c))
		v = [8]uint32{t1 + t2, v[0], v[1], v[2], v[3] + t1, v[4], v[5], v[6]}
	}
	for i := range v {
		v[i] += state[i]
	}
	return v
}

// cubeRoots reckons 32 bits behind the point in whole numbers: of the root of p 2^96.
func cubeRoots() (k [64]uint32) {
	for i, p := 0, int64(2); i < len(k); p++ {
		if !big.NewInt(p).ProbablyPrime(20) {
			continue
		}
		n := new(big.Int).Lsh(big.NewInt(p), 96)
		root := new(big.Int)
		for bit := 40; bit >= 0; bit-- {
			root.SetBit(root, bit, 1)
			if new(big.Int).Exp(root, big.NewInt(3), nil).Cmp(n) > 0 {
				root.SetBit(root, bit, 0)
			}
		}
		k[i] = uint32(root.Uint64())
		i++
	}
	return k
}

// B1

// TestBlockOfEveryBit: each bit of the state and of the block, alone, in zeros, and in ones.
func TestBlockOfEveryBit(t *testing.T) {
	look := func(state [8]uint32, block [64]byte) {
		t.Helper()
		want := libraryBlock(t, state, block)
		if got := sha.Block(state, block); got != want {
			t.Errorf("Block(%x, %x): %x, want %x", state, block, got, want)
		}
	}
	for _, fill := range []byte{0, 255} {
		var state [8]uint32
		var block [64]byte
		for i := range state {
			state[i] = uint32(fill) * 0x01010101
		}
		for i := range block {
			block[i] = fill
		}
		look(state, block)
		look(begin, block)
		for bit := range 256 {
			s := state
			s[bit/32] ^= 1 << (bit % 32)
			look(s, block)
		}
		for bit := range 512 {
			b := block
			b[bit/8] ^= 1 << (bit % 8)
			look(state, b)
			look(begin, b)
		}
	}
}

func TestBlockOfNoise(t *testing.T) {
	for i := range 300 {
		b := noise(int64(i), 96)
		var state [8]uint32
		for j := range state {
			state[j] = binary.BigEndian.Uint32(b[4*j:])
		}
		block := [64]byte(b[32:])
		kept, keptBlock := state, block
		got := sha.Block(state, block)
		if want := libraryBlock(t, state, block); got != want {
			t.Errorf("Block(%x, %x): %x, want %x", state, block, got, want)
		}
		if want := plainBlock(state, block); got != want {
			t.Errorf("Block(%x, %x): %x, the document has %x", state, block, got, want)
		}
		if state != kept || block != keptBlock {
			t.Error("what was handed in is changed")
		}
		if again := sha.Block(state, block); again != got {
			t.Errorf("a second time: %x, then %x", got, again)
		}
	}
}

// TestBlockOfPrintedExample is FIPS 180-4's: `abc`, as one block.
func TestBlockOfPrintedExample(t *testing.T) {
	var block [64]byte
	copy(block[:], "abc\x80")
	block[63] = 24
	want := [8]uint32{0xba7816bf, 0x8f01cfea, 0x414140de, 0x5dae2223, 0xb00361a3, 0x96177a9c, 0xb410ff61, 0xf20015ad}
	if got := sha.Block(begin, block); got != want {
		t.Errorf("%x", got)
	}
}

// B2

func TestPadExamples(t *testing.T) {
	for n, want := range map[int]int{55: 9, 56: 72} {
		if p := sha.Pad(n); len(p) != want {
			t.Errorf("Pad(%d): %d bytes", n, len(p))
		}
	}
}

func TestPadOfLessThanNone(t *testing.T) {
	for _, n := range []int{-1, -8, -9, -55, -56, -63, -64, -65, -1 << 32, math.MinInt + 1, math.MinInt} {
		if p := sha.Pad(n); len(p) != 0 {
			t.Errorf("Pad(%d): %v", n, p)
		}
	}
}

func TestPad(t *testing.T) {
	for n := range 700 {
		lookAtPad(t, n)
	}
	for _, n := range []int{1<<29 - 1, 1 << 29, 1<<29 + 55, 1<<31 - 1, 1 << 31, 1 << 32, 0x0123456789abcde, 1<<60 + 56, 1<<61 - 1} {
		lookAtPad(t, n)
	}
}

func lookAtPad(t *testing.T, n int) {
	t.Helper()
	p := sha.Pad(n)
	// The least multiple of 64 has no 64 bytes to spare beside the nine that must be.
	if len(p) < 9 || len(p) >= 9+64 || (n%64+len(p))%64 != 0 {
		t.Errorf("Pad(%d): %d bytes", n, len(p))
		return
	}
	if p[0] != 128 {
		t.Errorf("Pad(%d) begins with %d", n, p[0])
	}
	zeros, size := p[1:len(p)-8], p[len(p)-8:]
	if !bytes.Equal(zeros, make([]byte, len(zeros))) {
		t.Errorf("Pad(%d): %v", n, p)
	}
	if got := binary.BigEndian.Uint64(size); got != uint64(n)*8 {
		t.Errorf("Pad(%d) tells %d bits", n, got)
	}
}

// TestPadOfTheGreatest: nothing may panic, though 8 n has more than eight bytes there.
func TestPadOfTheGreatest(t *testing.T) {
	for _, n := range []int{1 << 61, 1 << 62, math.MaxInt - 64, math.MaxInt - 9, math.MaxInt - 8, math.MaxInt - 1, math.MaxInt} {
		lookAtPad(t, n)
	}
}

func TestPadIsItsOwn(t *testing.T) {
	p := sha.Pad(56)
	for i := range p {
		p[i] = 77
	}
	lookAtPad(t, 56)
}

// B3

func TestSumExamples(t *testing.T) {
	const nothing = "e3b0c442 98fc1c14 9afbf4c8 996fb924 27ae41e4 649b934c a495991b 7852b855"
	const abc = "ba7816bf 8f01cfea 414140de 5dae2223 b00361a3 96177a9c b410ff61 f20015ad"
	m := sha.New(false)
	for _, x := range []struct {
		l    [][]byte
		want string
	}{
		{nil, nothing},
		{[][]byte{}, nothing},
		{[][]byte{nil}, nothing},
		{[][]byte{{}, nil, {}}, nothing},
		{[][]byte{[]byte("abc")}, abc},
		{[][]byte{[]byte("a"), []byte("bc")}, abc},
	} {
		if got := m.Sum(x.l...); got != unhex(t, x.want) {
			t.Errorf("Sum(%q): %x", x.l, got)
		}
	}
	if got := m.Sum(); got != unhex(t, nothing) {
		t.Errorf("Sum(): %x", got)
	}
}

func TestSumOfPrintedExamples(t *testing.T) {
	m := sha.New(false)
	for s, want := range map[string]string{
		"abcdbcdecdefdefgefghfghighijhijkijkljklmklmnlmnomnopnopq":                                                         "248d6a61 d20638b8 e5c02693 0c3e6039 a33ce459 64ff2167 f6ecedd4 19db06c1",
		"abcdefghbcdefghicdefghijdefghijkefghijklfghijklmghijklmnhijklmnoijklmnopjklmnopqklmnopqrlmnopqrsmnopqrstnopqrstu": "cf5b16a7 78af8380 036ce59e 7b049237 0b249b11 e8f07a51 afac4503 7afee9d1",
		strings.Repeat("a", 1000000): "cdc76e5c 9914fb92 81a1c7e2 84d73e67 f1809a48 a497200e 046d39cc c7112cd0",
	} {
		if got := m.Sum([]byte(s)); got != unhex(t, want) {
			t.Errorf("%d bytes: %x", len(s), got)
		}
	}
}

func TestSumOfEverySize(t *testing.T) {
	meters := []*sha.Meter{nil, sha.New(false), sha.New(true)}
	b := noise(1, 300)
	for n := range len(b) + 1 {
		want := api.Key(sha256.Sum256(b[:n]))
		for i, m := range meters {
			if got := m.Sum(b[:n]); got != want {
				t.Errorf("%d bytes, Meter %d: %x, want %x", n, i, got, want)
			}
		}
	}
	for _, n := range sizes {
		for _, fill := range []byte{0, 128, 255} {
			b := bytes.Repeat([]byte{fill}, n)
			if got, want := sha.New(false).Sum(b), api.Key(sha256.Sum256(b)); got != want {
				t.Errorf("%d bytes %d: %x, want %x", n, fill, got, want)
			}
		}
	}
}

// TestSumIsOfBlocksAndPad holds the three calls against each other.
func TestSumIsOfBlocksAndPad(t *testing.T) {
	for _, n := range sizes {
		b := noise(int64(n), n)
		state := begin
		padded := append(bytes.Clone(b), sha.Pad(n)...)
		for ; len(padded) >= 64; padded = padded[64:] {
			state = sha.Block(state, [64]byte(padded))
		}
		var want []byte
		for _, word := range state {
			want = binary.BigEndian.AppendUint32(want, word)
		}
		if got := sha.New(false).Sum(b); len(padded) != 0 || !bytes.Equal(got[:], want) {
			t.Errorf("%d bytes: %x, want %x", n, got, want)
		}
	}
}

// B5

func TestSumOfTwoListsCutAnywhere(t *testing.T) {
	m := sha.New(true)
	for _, n := range []int{1, 55, 56, 63, 64, 65, 127, 128, 130} {
		b := noise(int64(n), n)
		want := api.Key(sha256.Sum256(b))
		for cut := range n + 1 {
			if got := m.Sum(b[:cut], b[cut:]); got != want {
				t.Errorf("%d bytes, cut at %d: %x, want %x", n, cut, got, want)
			}
			inputs := m.Inputs()
			if last := inputs[len(inputs)-1]; !bytes.Equal(last, b) {
				t.Errorf("%d bytes, cut at %d: kept as %x", n, cut, last)
			}
		}
		if _, _, found := m.Alike(); found {
			t.Error("what was cut otherwise is unlike")
		}
	}
}

func TestSumOfManyLists(t *testing.T) {
	b := noise(5, 200)
	want := api.Key(sha256.Sum256(b))
	for _, size := range []int{1, 2, 3, 7, 32, 63, 64, 65, 199, 200} {
		l := [][]byte{nil}
		for rest := b; len(rest) > 0; {
			n := min(size, len(rest))
			l = append(l, rest[:n], nil, []byte{})
			rest = rest[n:]
		}
		for i, m := range []*sha.Meter{nil, sha.New(false), sha.New(true)} {
			if got := m.Sum(l...); got != want {
				t.Errorf("lists of %d, Meter %d: %x, want %x", size, i, got, want)
			}
		}
	}
}

// TestSumOfTurnedLists: order does matter.
func TestSumOfTurnedLists(t *testing.T) {
	a, b := []byte("a"), []byte("bc")
	if m := sha.New(false); m.Sum(a, b) == m.Sum(b, a) {
		t.Error("one digest")
	}
}
