package field_test

import (
	"encoding/binary"
	"math"
	"math/big"
	"math/rand"
	"slices"
	"testing"

	"cablegram/api"
	"cablegram/field"
)

func two(power uint) *big.Int { return new(big.Int).Lsh(big.NewInt(1), power) }

func prime() *big.Int { return new(big.Int).Sub(two(255), big.NewInt(19)) }

func modulo(n *big.Int) *big.Int { return new(big.Int).Mod(n, prime()) }

// number is of a key's bytes, all bits of them.
func number(k api.Key) *big.Int {
	b := slices.Clone(k[:])
	slices.Reverse(b)
	return new(big.Int).SetBytes(b)
}

// keyOf has the number's bytes, the lowest one first.
func keyOf(n *big.Int) api.Key {
	var k api.Key
	n.FillBytes(k[:])
	slices.Reverse(k[:])
	return k
}

// of is the Element of a number modulo p.
func of(t *testing.T, n *big.Int) field.Element {
	t.Helper()
	x, whole := field.Of(keyOf(modulo(n)))
	if !whole {
		t.Fatalf("%v: not whole", n)
	}
	return x
}

// check holds an Element against a number, by Key and by Equal.
func check(t *testing.T, what string, x field.Element, n *big.Int) {
	t.Helper()
	want := modulo(n)
	if k := x.Key(); k != keyOf(want) {
		t.Errorf("%s: %x, want %x", what, k, keyOf(want))
	}
	if !x.Equal(of(t, want)) || !of(t, want).Equal(x) {
		t.Errorf("%s: not Equal to its number", what)
	}
	if x.IsZero() != (want.Sign() == 0) {
		t.Errorf("%s: IsZero %v", what, x.IsZero())
	}
}

// below has numbers from 0 to p - 1: the least and the greatest ones, those about each power of 2 and about what is p less one, ones whose bits are many of one kind in a row, and others.
func below() []*big.Int {
	var l []*big.Int
	for i := range int64(40) {
		l = append(l, big.NewInt(i), new(big.Int).Sub(prime(), big.NewInt(i+1)))
	}
	for power := uint(1); power < 255; power++ {
		for d := int64(-1); d <= 1; d++ {
			n := new(big.Int).Add(two(power), big.NewInt(d))
			l = append(l, n, new(big.Int).Sub(prime(), n))
		}
	}
	for from := uint(0); from < 255; from += 17 {
		for to := from + 1; to < 255; to += 17 {
			l = append(l, new(big.Int).Sub(two(to), two(from)))
		}
	}
	return append(l, noise(1, 200)...)
}

// few has some of the numbers that below has: for what is asked of every two, or three.
func few() []*big.Int {
	l := []*big.Int{}
	for _, i := range []int64{0, 1, 2, 3, 7, 18, 19, 20, 21, 121665} {
		l = append(l, big.NewInt(i), new(big.Int).Sub(prime(), big.NewInt(i+1)))
	}
	for _, power := range []uint{26, 31, 32, 50, 51, 52, 63, 64, 102, 127, 128, 153, 204, 250, 253, 254} {
		n := new(big.Int).Sub(two(power), big.NewInt(1))
		l = append(l, n, two(power), new(big.Int).Sub(prime(), n))
	}
	return append(l, noise(2, 20)...)
}

// noise is of the same numbers each time.
func noise(seed int64, count int) []*big.Int {
	r := rand.New(rand.NewSource(seed))
	l := make([]*big.Int, count)
	for i := range l {
		l[i] = new(big.Int).Rand(r, prime())
	}
	return l
}

// F1

func TestFieldExamples(t *testing.T) {
	least := field.Small(0).Sub(field.Small(1)).Key()
	var want, full api.Key
	for i := range want {
		want[i], full[i] = 255, 255
	}
	want[0], want[31] = 236, 127
	if least != want {
		t.Errorf("Small(0) less Small(1): %x", least)
	}
	if x, whole := field.Of(least); !whole || x.Key() != least {
		t.Error("Of that key:", x.Key(), whole)
	}
	if x, whole := field.Of(full); whole || !x.Equal(field.Small(18)) || x.Key() != (api.Key{18}) {
		t.Error("Of thirty-two bytes 255:", x.Key(), whole)
	}
	if x := field.Small(2); !x.Mul(x.Invert()).Equal(field.Small(1)) {
		t.Error("Small(2) by its Invert:", x.Mul(x.Invert()).Key())
	}
}

func TestOfWhatIsBelow(t *testing.T) {
	for _, n := range below() {
		x, whole := field.Of(keyOf(n))
		if !whole {
			t.Errorf("%v: not whole", n)
		}
		check(t, n.String(), x, n)
	}
}

// TestOfWhatIsNotBelow: the nineteen numbers from p on below 2^255, and what has the highest bit, that of p and more, and of any other.
func TestOfWhatIsNotBelow(t *testing.T) {
	refused := func(n *big.Int) {
		t.Helper()
		rest := new(big.Int).SetBit(n, 255, 0)
		x, whole := field.Of(keyOf(n))
		if whole {
			t.Errorf("%v: whole", n)
		}
		check(t, n.String(), x, rest)
	}
	for i := range int64(19) {
		n := new(big.Int).Add(prime(), big.NewInt(i))
		refused(n)
		refused(new(big.Int).Add(n, two(255)))
	}
	for _, n := range below() {
		refused(new(big.Int).Add(n, two(255)))
	}
	for i := range int64(19) { // from 2 p on nothing is left out but the highest bit
		refused(new(big.Int).Add(new(big.Int).Mul(prime(), big.NewInt(2)), big.NewInt(i)))
	}
}

func TestOfEachBit(t *testing.T) {
	for bit := range 256 {
		var k api.Key
		k[bit/8] = 1 << (bit % 8)
		x, whole := field.Of(k)
		want := k
		want[31] &= 127
		if x.Key() != want || whole != (bit < 255) {
			t.Errorf("bit %d: %x %v", bit, x.Key(), whole)
		}
	}
}

func TestOfReadsTheLowestByteFirst(t *testing.T) {
	for i := range uint64(1000) {
		n := i*i*i*i*i*i + i
		var k api.Key
		binary.LittleEndian.PutUint64(k[:], n)
		if x, whole := field.Of(k); !whole || !x.Equal(field.Small(n)) {
			t.Errorf("%d: %x %v", n, x.Key(), whole)
		}
	}
}

func TestSmall(t *testing.T) {
	l := []uint64{0, 1, 2, 9, 18, 19, 20, 255, 256, 121665, math.MaxUint32, math.MaxInt64, math.MaxUint64}
	for bit := range 64 {
		l = append(l, 1<<bit, 1<<bit-1, 1<<bit+1, math.MaxUint64-1<<bit)
	}
	for _, n := range l {
		check(t, "Small", field.Small(n), new(big.Int).SetUint64(n))
	}
}

func TestZeroElement(t *testing.T) {
	var x field.Element
	check(t, "the zero Element", x, new(big.Int))
	check(t, "more by 1", x.Add(field.Small(1)), big.NewInt(1))
	check(t, "taken from by 1", x.Sub(field.Small(1)), big.NewInt(-1))
	check(t, "its Invert", x.Invert(), new(big.Int))
	if !x.Equal(field.Small(0)) || x.Key() != (api.Key{}) {
		t.Errorf("%x", x.Key())
	}
}

// F2

func TestAddSubMulOfEveryTwo(t *testing.T) {
	l := few()
	for _, a := range l {
		for _, b := range l {
			x, y := of(t, a), of(t, b)
			check(t, "Add", x.Add(y), new(big.Int).Add(a, b))
			check(t, "Sub", x.Sub(y), new(big.Int).Sub(a, b))
			check(t, "Mul", x.Mul(y), new(big.Int).Mul(a, b))
		}
	}
}

func TestAddSubMulWithItself(t *testing.T) {
	for _, n := range below() {
		x := of(t, n)
		check(t, "Add", x.Add(x), new(big.Int).Lsh(n, 1))
		check(t, "Sub", x.Sub(x), new(big.Int))
		check(t, "Mul", x.Mul(x), new(big.Int).Mul(n, n))
	}
}

// TestSumsThatEndAboutP: a and b of which a + b, or a - b, is p, or near it.
func TestSumsThatEndAboutP(t *testing.T) {
	for _, n := range below() {
		for d := int64(-20); d <= 20; d++ {
			other := modulo(new(big.Int).Sub(big.NewInt(d), n))
			check(t, "Add", of(t, n).Add(of(t, other)), big.NewInt(d))
			near := modulo(new(big.Int).Sub(n, big.NewInt(d)))
			check(t, "Sub", of(t, n).Sub(of(t, near)), big.NewInt(d))
		}
	}
}

// TestProductsThatEndAboutP: a and b of which a b is p, or near it.
func TestProductsThatEndAboutP(t *testing.T) {
	for _, n := range few() {
		if n.Sign() == 0 {
			continue
		}
		other := new(big.Int).ModInverse(n, prime())
		for d := int64(-20); d <= 20; d++ {
			check(t, "Mul", of(t, n).Mul(of(t, new(big.Int).Mul(other, big.NewInt(d)))), big.NewInt(d))
		}
	}
}

// TestLongReckoning: what is reckoned is reckoned with, again and again.
func TestLongReckoning(t *testing.T) {
	l := append(noise(3, 4), big.NewInt(0), new(big.Int).Sub(prime(), big.NewInt(1)), two(254))
	for _, a := range l {
		for _, b := range l {
			n, m := new(big.Int).Set(a), new(big.Int).Set(b)
			x, y := of(t, n), of(t, m)
			for i := range 60 {
				switch i % 4 {
				case 0:
					x, n = x.Add(y), modulo(new(big.Int).Add(n, m))
				case 1:
					x, n = x.Mul(x), modulo(new(big.Int).Mul(n, n))
				case 2:
					y, m = y.Sub(x), modulo(new(big.Int).Sub(m, n))
				case 3:
					y, m = y.Mul(x), modulo(new(big.Int).Mul(m, n))
				}
				check(t, "x", x, n)
				check(t, "y", y, m)
			}
		}
	}
}

func TestPower(t *testing.T) {
	powers := []uint64{0, 1, 2, 3, 4, 5, 11, 15, 16, 17, 255, 256, 1 << 32, 1<<63 - 1, 1 << 63, math.MaxUint64 - 1, math.MaxUint64}
	for _, n := range few() {
		for _, power := range powers {
			check(t, "Power", of(t, n).Power(power), new(big.Int).Exp(n, new(big.Int).SetUint64(power), prime()))
		}
	}
}

func TestPowerIsMuls(t *testing.T) {
	for _, n := range few() {
		x, want := of(t, n), field.Small(1)
		for power := range uint64(40) {
			if got := x.Power(power); !got.Equal(want) {
				t.Errorf("%v, %d: %x, want %x", n, power, got.Key(), want.Key())
			}
			want = want.Mul(x)
		}
	}
}

func TestInvert(t *testing.T) {
	if x := field.Small(0).Invert(); !x.IsZero() || !x.Equal(field.Small(0)) {
		t.Errorf("of 0: %x", x.Key())
	}
	for _, n := range below() {
		if n.Sign() == 0 {
			continue
		}
		x := of(t, n)
		inverted := x.Invert()
		check(t, "Invert", inverted, new(big.Int).ModInverse(n, prime()))
		check(t, "by its Invert", x.Mul(inverted), big.NewInt(1))
		check(t, "the Invert's own", inverted.Invert(), n)
	}
}

// TestOfNumbersThatAreNotWhole: they are reckoned with as what they are modulo p.
func TestOfNumbersThatAreNotWhole(t *testing.T) {
	for i := range int64(19) {
		n := new(big.Int).Add(prime(), big.NewInt(i))
		for _, k := range []api.Key{keyOf(n), keyOf(new(big.Int).Add(n, two(255)))} {
			x, _ := field.Of(k)
			if !x.Equal(field.Small(uint64(i))) || x.IsZero() != (i == 0) {
				t.Errorf("p and %d: %x", i, x.Key())
			}
			check(t, "Add", x.Add(x), big.NewInt(2*i))
			check(t, "Sub", x.Sub(field.Small(18)), big.NewInt(i-18))
			check(t, "Mul", x.Mul(x), big.NewInt(i*i))
			check(t, "Power", x.Power(2), big.NewInt(i*i))
			if inverted := x.Invert(); !inverted.Equal(field.Small(uint64(i)).Invert()) {
				t.Errorf("p and %d, inverted: %x", i, inverted.Key())
			}
		}
	}
}

func TestEqualOfEveryTwo(t *testing.T) {
	l := few()
	for _, a := range l {
		for _, b := range l {
			if x, y := of(t, a), of(t, b); x.Equal(y) != (a.Cmp(b) == 0) {
				t.Errorf("%v, %v: %v", a, b, x.Equal(y))
			}
		}
	}
}

func TestEqualSeesEveryBit(t *testing.T) {
	for _, n := range noise(4, 5) {
		for bit := range 254 {
			turned := new(big.Int).SetBit(n, bit, 1-n.Bit(bit))
			if x, y := of(t, n), of(t, turned); x.Equal(y) || y.Equal(x) || x.Key() == y.Key() {
				t.Errorf("%v, bit %d: equal", n, bit)
			}
			if x := of(t, two(uint(bit))); x.IsZero() || x.Equal(field.Small(0)) {
				t.Errorf("bit %d: 0", bit)
			}
		}
	}
}

func TestIsZeroOfWhatComesOut(t *testing.T) {
	for _, n := range below() {
		x := of(t, n)
		y := of(t, new(big.Int).Sub(prime(), n))
		for i, zero := range []field.Element{x.Sub(x), x.Add(y), y.Add(x), x.Mul(field.Small(0)), field.Small(0).Mul(x), field.Small(0).Power(3)} {
			if !zero.IsZero() || zero.Key() != (api.Key{}) {
				t.Errorf("%v, %d: %x", n, i, zero.Key())
			}
		}
	}
}

func TestChoose(t *testing.T) {
	l := few()
	for _, a := range l {
		for _, b := range l {
			x, y := of(t, a), of(t, b)
			check(t, "first", field.Choose(true, x, y), a)
			check(t, "second", field.Choose(false, x, y), b)
		}
	}
}

// F3

func TestLaws(t *testing.T) {
	l := append(noise(5, 6), big.NewInt(0), big.NewInt(1), big.NewInt(19), new(big.Int).Sub(prime(), big.NewInt(1)), two(254), new(big.Int).Sub(two(255), two(51)))
	for _, a := range l {
		for _, b := range l {
			for _, c := range l {
				x, y, z := of(t, a), of(t, b), of(t, c)
				for i, law := range []struct{ one, other field.Element }{
					{x.Add(y), y.Add(x)},
					{x.Mul(y), y.Mul(x)},
					{x.Add(y).Add(z), x.Add(y.Add(z))},
					{x.Mul(y).Mul(z), x.Mul(y.Mul(z))},
					{x.Mul(y.Add(z)), x.Mul(y).Add(x.Mul(z))},
					{x.Mul(y.Sub(z)), x.Mul(y).Sub(x.Mul(z))},
					{x.Add(y).Sub(y), x},
					{x.Sub(y).Add(y), x},
					{x.Mul(y).Mul(y.Invert()), field.Choose(y.IsZero(), y, x)},
				} {
					if !law.one.Equal(law.other) || law.one.Key() != law.other.Key() {
						t.Errorf("%v, %v, %v: law %d: %x, %x", a, b, c, i, law.one.Key(), law.other.Key())
					}
				}
			}
		}
	}
}

// R5: what calls are of, and are told, is not changed.

func TestNothingIsChanged(t *testing.T) {
	for _, n := range few() {
		x, y := of(t, n), of(t, big.NewInt(77))
		x.Add(y)
		x.Sub(y)
		x.Mul(y)
		x.Power(7)
		x.Invert()
		field.Choose(true, y, x)
		field.Choose(false, y, x)
		check(t, "x", x, n)
		check(t, "y", y, big.NewInt(77))
	}
}
