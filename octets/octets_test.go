package octets_test

import (
	"bytes"
	"encoding/hex"
	"math"
	"strings"
	"testing"
	"time"

	"cablegram/api"
	"cablegram/octets"
)

var numbers = []uint64{0, 1, 2, 127, 128, 255, 256, 258, 65535, 65536, 1 << 31, 1 << 32, 1<<56 - 1, 1 << 56, 1 << 63, 0x0102030405060708, 0xf1e2d3c4b5a69788, math.MaxUint64}

// lists has lists of none, of few, and of sizes about those at which something changes: 8 and 32.
func lists() [][]byte {
	l := [][]byte{nil, {}, {0}, {1}, {255}, {0, 0}, {1, 2, 3}, {3, 3}, {10, 255}}
	for _, n := range []int{7, 8, 9, 31, 32, 33, 300} {
		b := make([]byte, n)
		for i := range b {
			b[i] = byte(i*37 + n)
		}
		l = append(l, b)
	}
	return l
}

// A1

func TestNumberExamples(t *testing.T) {
	if b := octets.Low(258, 3); !bytes.Equal(b, []byte{2, 1, 0}) {
		t.Error("Low(258, 3):", b)
	}
	if b := octets.High(258, 3); !bytes.Equal(b, []byte{0, 1, 2}) {
		t.Error("High(258, 3):", b)
	}
}

func TestNumberIsWrittenInBothOrders(t *testing.T) {
	for _, n := range numbers {
		for size := 1; size <= 8; size++ {
			want := make([]byte, size)
			turned := make([]byte, size)
			rest := n
			for i := range want {
				want[i] = byte(rest % 256)
				turned[size-1-i] = want[i]
				rest /= 256
			}
			if b := octets.Low(n, size); !bytes.Equal(b, want) {
				t.Errorf("Low(%d, %d): %v, want %v", n, size, b, want)
			}
			if b := octets.High(n, size); !bytes.Equal(b, turned) {
				t.Errorf("High(%d, %d): %v, want %v", n, size, b, turned)
			}
		}
	}
}

func TestNumberOfWrongSizeHasNoBytes(t *testing.T) {
	for _, size := range []int{0, -1, -8, 9, 16, 256, math.MinInt, math.MaxInt, 1<<32 + 1} {
		if b := octets.Low(math.MaxUint64, size); len(b) != 0 {
			t.Errorf("Low, size %d: %v", size, b)
		}
		if b := octets.High(math.MaxUint64, size); len(b) != 0 {
			t.Errorf("High, size %d: %v", size, b)
		}
	}
}

func TestNumberIsReadInBothOrders(t *testing.T) {
	for _, x := range []struct {
		b         []byte
		low, high uint64
	}{
		{nil, 0, 0},
		{[]byte{}, 0, 0},
		{[]byte{0}, 0, 0},
		{[]byte{200}, 200, 200},
		{[]byte{1, 2}, 513, 258},
		{[]byte{0, 0, 7}, 7 << 16, 7},
		{[]byte{1, 2, 3, 4, 5, 6, 7}, 0x07060504030201, 0x01020304050607},
		{[]byte{1, 2, 3, 4, 5, 6, 7, 8}, 0x0807060504030201, 0x0102030405060708},
		{[]byte{1, 2, 3, 4, 5, 6, 7, 8, 9}, 0x0807060504030201, 0x0102030405060708},
		{bytes.Repeat([]byte{255}, 40), math.MaxUint64, math.MaxUint64},
		{append(make([]byte, 8), 1, 2, 3), 0, 0},
	} {
		if n := octets.OfLow(x.b); n != x.low {
			t.Errorf("OfLow(%v): %d, want %d", x.b, n, x.low)
		}
		if n := octets.OfHigh(x.b); n != x.high {
			t.Errorf("OfHigh(%v): %d, want %d", x.b, n, x.high)
		}
	}
}

// A2

func TestXor(t *testing.T) {
	for _, x := range []struct{ a, b, want []byte }{
		{[]byte{1, 2, 3}, []byte{3, 3}, []byte{2, 1}},
		{[]byte{3, 3}, []byte{1, 2, 3}, []byte{2, 1}},
		{[]byte{255, 0, 170}, []byte{255, 255, 85}, []byte{0, 255, 255}},
		{[]byte{1}, nil, nil},
		{nil, []byte{1}, nil},
		{[]byte{}, []byte{1}, nil},
		{nil, nil, nil},
	} {
		if b := octets.Xor(x.a, x.b); !bytes.Equal(b, x.want) {
			t.Errorf("Xor(%v, %v): %v, want %v", x.a, x.b, b, x.want)
		}
	}
}

func TestXorOfEveryTwoBytes(t *testing.T) {
	for a := range 256 {
		for b := range 256 {
			want := 0
			for bit := range 8 {
				if a>>bit&1 != b>>bit&1 {
					want += 1 << bit
				}
			}
			if got := octets.Xor([]byte{byte(a)}, []byte{byte(b)}); len(got) != 1 || int(got[0]) != want {
				t.Fatalf("Xor(%d, %d): %v, want %d", a, b, got, want)
			}
		}
	}
}

func TestSame(t *testing.T) {
	for _, a := range lists() {
		for _, b := range lists() {
			if got, want := octets.Same(a, b), bytes.Equal(a, b); got != want {
				t.Errorf("Same(%v, %v): %v", a, b, got)
			}
		}
	}
}

func TestSameSeesEveryBitAnywhere(t *testing.T) {
	for _, size := range []int{1, 8, 32, 33} {
		a := bytes.Repeat([]byte{0x5a}, size)
		for i := range size {
			for bit := range 8 {
				b := bytes.Clone(a)
				b[i] ^= 1 << bit
				if octets.Same(a, b) || octets.Same(b, a) {
					t.Errorf("size %d, byte %d, bit %d: the same", size, i, bit)
				}
			}
		}
	}
}

// TestSameSeesDifferencesThatEvenOut: like differences at an even number of places, or at 256 of them, are nothing if they are mixed or summed.
func TestSameSeesDifferencesThatEvenOut(t *testing.T) {
	for _, size := range []int{2, 32, 256, 512} {
		for bit := range 8 {
			a, b := make([]byte, size), bytes.Repeat([]byte{1 << bit}, size)
			if octets.Same(a, b) || octets.Same(b, a) {
				t.Errorf("size %d, bit %d everywhere: the same", size, bit)
			}
		}
	}
	if octets.Same([]byte{1, 2}, []byte{2, 1}) {
		t.Error("turned round: the same")
	}
}

func TestSameOfUnlikeLength(t *testing.T) {
	for _, x := range [][2][]byte{{{0}, nil}, {{0, 0}, {0}}, {{1, 0}, {1}}, {make([]byte, 256), nil}, {make([]byte, 33), make([]byte, 32)}, {make([]byte, 65536), {}}} {
		if octets.Same(x[0], x[1]) || octets.Same(x[1], x[0]) {
			t.Errorf("%d and %d bytes: the same", len(x[0]), len(x[1]))
		}
	}
}

// TestSameLooksAtAll: one that leaves off at a difference takes less than a thousandth of the time; a twentieth leaves room for a busy machine.
func TestSameLooksAtAll(t *testing.T) {
	const size = 1 << 22
	a := make([]byte, size)
	differing := func(i int) []byte {
		b := bytes.Clone(a)
		b[i] = 1
		return b
	}
	whole := quickest(a, bytes.Clone(a))
	for name, b := range map[string][]byte{
		"the first byte differs":         differing(0),
		"a byte near the first differs":  differing(100),
		"the last byte is not there":     a[:size-1],
		"the first differs, one is less": differing(0)[:size-1],
		"nothing is there":               nil,
	} {
		if d := quickest(a, b); d*20 < whole {
			t.Errorf("%s: %v, and %v if nothing does", name, d, whole)
		}
		if d := quickest(b, a); d*20 < whole {
			t.Errorf("%s, turned: %v, and %v if nothing does", name, d, whole)
		}
	}
}

func quickest(a, b []byte) time.Duration {
	best := time.Duration(math.MaxInt64)
	for range 5 {
		start := time.Now()
		octets.Same(a, b)
		best = min(best, time.Since(start))
	}
	return best
}

// A3

func TestHexExamples(t *testing.T) {
	if s := octets.Hex([]byte{10, 255}); s != "0aff" {
		t.Errorf("Hex: %q", s)
	}
	if b, e := octets.Unhex("0aff"); e != api.OK || !bytes.Equal(b, []byte{10, 255}) {
		t.Error("Unhex(`0aff`):", b, e)
	}
	if b, e := octets.Unhex("0aF"); e != api.ErrHex || len(b) != 0 {
		t.Error("Unhex(`0aF`):", b, e)
	}
}

func TestHex(t *testing.T) {
	for _, b := range lists() {
		if s := octets.Hex(b); s != hex.EncodeToString(b) {
			t.Errorf("Hex(%v): %q", b, s)
		}
	}
	for x := range 256 {
		if s := octets.Hex([]byte{byte(x)}); s != hex.EncodeToString([]byte{byte(x)}) {
			t.Errorf("Hex(%d): %q", x, s)
		}
	}
}

func TestUnhexOfEveryTwoCharacters(t *testing.T) {
	const digits = "0123456789abcdef"
	for x := range 256 {
		for y := range 256 {
			s := string([]byte{byte(x), byte(y)})
			high, low := strings.IndexByte(digits, byte(x)), strings.IndexByte(digits, byte(y))
			b, e := octets.Unhex(s)
			if high < 0 || low < 0 {
				if e != api.ErrHex || len(b) != 0 {
					t.Fatalf("Unhex(%q): %v %v", s, b, e)
				}
			} else if e != api.OK || len(b) != 1 || int(b[0]) != high*16+low {
				t.Fatalf("Unhex(%q): %v %v", s, b, e)
			}
		}
	}
}

func TestUnhexOfWrongTexts(t *testing.T) {
	for _, s := range []string{
		"0", "f", "000", "0af", "x", "12345",
		"AA", "aA", "Aa", "0aFF", "00ff7A", "G0", "0g", "0x", "  ", " a", "a ", "0a\n0", "0a 0", "-1", "+1",
		"00zz00", "zz0000", "0000zz", "00\x00\x00", "\xff\xff", "é", "éé", "００",
		strings.Repeat("0", 4001), strings.Repeat("0", 4000) + "0F",
	} {
		if b, e := octets.Unhex(s); e != api.ErrHex || len(b) != 0 {
			t.Errorf("Unhex(%q): %v %v", s, b, e)
		}
	}
}

func TestUnhexOfNothing(t *testing.T) {
	if b, e := octets.Unhex(""); e != api.OK || len(b) != 0 {
		t.Error(b, e)
	}
}

// A4

func TestToKey(t *testing.T) {
	for _, n := range []int{0, 1, 31, 32, 33, 64, 4000} {
		b := make([]byte, n)
		for i := range b {
			b[i] = byte(i + 1)
		}
		var want api.Key
		wantError := api.OK
		switch {
		case n < 32:
			wantError = api.ErrShort
		case n > 32:
			wantError = api.ErrLong
		default:
			for i := range want {
				want[i] = byte(i + 1)
			}
		}
		if k, e := octets.ToKey(b); k != want || e != wantError {
			t.Errorf("%d bytes: %v %v", n, k, e)
		}
	}
	if k, e := octets.ToKey(nil); k != (api.Key{}) || e != api.ErrShort {
		t.Error("nil:", k, e)
	}
}

func TestJoin(t *testing.T) {
	for _, x := range []struct {
		l    [][]byte
		want string
	}{
		{nil, ""},
		{[][]byte{}, ""},
		{[][]byte{nil}, ""},
		{[][]byte{{}, nil, {}}, ""},
		{[][]byte{[]byte("abc")}, "abc"},
		{[][]byte{[]byte("a"), []byte("bc")}, "abc"},
		{[][]byte{[]byte("bc"), []byte("a")}, "bca"},
		{[][]byte{nil, []byte("a"), {}, []byte("a"), []byte("b"), nil}, "aab"},
		{[][]byte{{0}, {0, 0}, {255}}, "\x00\x00\x00\xff"},
	} {
		if b := octets.Join(x.l...); string(b) != x.want {
			t.Errorf("Join(%q): %q, want %q", x.l, b, x.want)
		}
	}
	if b := octets.Join(); len(b) != 0 {
		t.Error("no list:", b)
	}
	if b := octets.Join(lists()...); !bytes.Equal(b, bytes.Join(lists(), nil)) {
		t.Error("many lists:", b)
	}
}

// A5

func TestWhatIsWrittenIsRead(t *testing.T) {
	for _, n := range numbers {
		for size := 1; size <= 8; size++ {
			want := n
			if size < 8 {
				want = n % (1 << (8 * size))
			}
			if got := octets.OfLow(octets.Low(n, size)); got != want {
				t.Errorf("%d, size %d, lowest first: %d", n, size, got)
			}
			if got := octets.OfHigh(octets.High(n, size)); got != want {
				t.Errorf("%d, size %d, lowest last: %d", n, size, got)
			}
		}
	}
	for _, b := range lists() {
		if size := len(b); 1 <= size && size <= 8 {
			if got := octets.Low(octets.OfLow(b), size); !bytes.Equal(got, b) {
				t.Errorf("%v, lowest first: %v", b, got)
			}
			if got := octets.High(octets.OfHigh(b), size); !bytes.Equal(got, b) {
				t.Errorf("%v, lowest last: %v", b, got)
			}
		}
		got, e := octets.Unhex(octets.Hex(b))
		if e != api.OK || !bytes.Equal(got, b) {
			t.Errorf("%v, as digits: %v %v", b, got, e)
		}
	}
	for _, s := range []string{"", "00", "0aff", "00112233445566778899aabbccddeeff"} {
		if b, e := octets.Unhex(s); e != api.OK || octets.Hex(b) != s {
			t.Errorf("%q: %v %v", s, b, e)
		}
	}
}

func TestWhatIsMixedTwiceIsWhatItWas(t *testing.T) {
	for _, a := range lists() {
		for _, b := range lists() {
			size := min(len(a), len(b))
			mixed := octets.Xor(a, b)
			if got := octets.Xor(mixed, b); !bytes.Equal(got, a[:size]) {
				t.Errorf("%v with %v: %v", a, b, got)
			}
			if got := octets.Xor(mixed, a); !bytes.Equal(got, b[:size]) {
				t.Errorf("%v with %v: %v", b, a, got)
			}
		}
	}
}

// R5: what is handed in is not changed; and an answer is a list of its own.

func TestNothingHandedInIsChanged(t *testing.T) {
	a, b := []byte{1, 2, 3, 4}, []byte{5, 6, 7, 8}
	key := bytes.Repeat([]byte{9}, 32)
	long := append(make([]byte, 0, 64), a...)
	tail := long[:cap(long)]
	octets.OfLow(a)
	octets.OfHigh(a)
	octets.Same(a, b)
	octets.Hex(a)
	answers := [][]byte{octets.Xor(a, b), octets.Xor(b, a), octets.Join(a), octets.Join(a, nil), octets.Join(nil, a), octets.Join(long, b)}
	k, _ := octets.ToKey(key)
	for i := range k {
		k[i] = 77
	}
	for _, x := range answers {
		x = x[:cap(x)]
		for i := range x {
			x[i] = 77
		}
	}
	if !bytes.Equal(a, []byte{1, 2, 3, 4}) || !bytes.Equal(b, []byte{5, 6, 7, 8}) || !bytes.Equal(long, []byte{1, 2, 3, 4}) {
		t.Error(a, b, long)
	}
	if !bytes.Equal(tail[4:], make([]byte, 60)) {
		t.Error("behind a list:", tail)
	}
	if !bytes.Equal(key, bytes.Repeat([]byte{9}, 32)) {
		t.Error(key)
	}
}
