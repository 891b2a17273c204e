package field

import (
	"math"
	"math/big"
	"math/rand"
	"testing"
)

// worth is the number of parts, whatever they have too much.
func worth(p parts) *big.Int {
	n := new(big.Int)
	for i, part := range p {
		n.Add(n, new(big.Int).Lsh(new(big.Int).SetUint64(part), uint(partBits*i)))
	}
	return n
}

// checkReduced: as the number modulo p, in the one array that it has.
func checkReduced(t *testing.T, p parts) {
	t.Helper()
	prime := new(big.Int).Sub(new(big.Int).Lsh(big.NewInt(1), 255), big.NewInt(19))
	x, want := reduced(p), new(big.Int).Mod(worth(p), prime)
	if worth(x.parts).Cmp(want) != 0 {
		t.Errorf("%v: %v, want %v", p, x.parts, want)
	}
	for i, part := range x.parts {
		if part > partMask {
			t.Errorf("%v: part %d has too much: %v", p, i, x.parts)
		}
	}
}

// TestReducedOfEveryMix: each part of none, of all that it has room for, of about what p has there, and of the most that reduced is told.
func TestReducedOfEveryMix(t *testing.T) {
	of := []uint64{0, 1, 18, 19, leastPart - 1, leastPart, leastPart + 1, partMask - 1, partMask, partMask + 1, 2 * leastPart, 2 * partMask, math.MaxInt64 - partMask, math.MaxInt64 - 1, math.MaxInt64}
	for _, a := range of {
		for _, b := range of {
			for _, c := range of {
				checkReduced(t, parts{a, b, c, b, a})
				checkReduced(t, parts{a, b, b, b, c})
				checkReduced(t, parts{a, partMask, partMask, b, c})
				checkReduced(t, parts{a, 0, b, 0, c})
			}
		}
	}
}

func TestReducedOfNoise(t *testing.T) {
	r := rand.New(rand.NewSource(6))
	for i := range 50000 {
		var p parts
		for k := range p {
			p[k] = uint64(r.Int63()) >> (i % 16)
		}
		checkReduced(t, p)
	}
}

// TestReducedAboutEachMultiple: numbers about 0, p, 2 p and so on, as far as parts have room for them, with what the first part has, and with some of it lent by the second one.
func TestReducedAboutEachMultiple(t *testing.T) {
	for times := range uint64(4096) {
		for d := range uint64(40) {
			p := parts{times*leastPart + d, times * partMask, times * partMask, times * partMask, times * partMask}
			checkReduced(t, p)
			if times > 0 {
				p[0] -= 20
				checkReduced(t, p)
				p[0], p[1] = p[0]+partMask+1, p[1]-1
				checkReduced(t, p)
			}
		}
	}
}

// TestProductOfTheGreatest: no sum goes beyond its two words, nor a carry beyond its one.
func TestProductOfTheGreatest(t *testing.T) {
	full := parts{partMask, partMask, partMask, partMask, partMask} // more than any Element has
	x := Element{full}.Mul(Element{full})
	n := worth(full)
	want := n.Mul(n, n).Mod(n, new(big.Int).Sub(new(big.Int).Lsh(big.NewInt(1), 255), big.NewInt(19)))
	if worth(x.parts).Cmp(want) != 0 {
		t.Errorf("%v, want %v", x.parts, want)
	}
}

// TestPlusCarries: from the lower word to the higher one.
func TestPlusCarries(t *testing.T) {
	for _, low := range []uint64{0, 1, math.MaxUint64 - 1, math.MaxUint64} {
		for _, a := range []uint64{0, 1, 2, partMask, 1 << 56, math.MaxUint64} {
			for _, b := range []uint64{0, 1, 19, partMask, fold * partMask} {
				s := wide{7, low}.plus(a, b)
				got := new(big.Int).Add(new(big.Int).Lsh(new(big.Int).SetUint64(s.high), 64), new(big.Int).SetUint64(s.low))
				want := new(big.Int).Mul(new(big.Int).SetUint64(a), new(big.Int).SetUint64(b))
				want.Add(want, new(big.Int).Lsh(big.NewInt(7), 64)).Add(want, new(big.Int).SetUint64(low))
				if got.Cmp(want) != 0 {
					t.Errorf("%d, %d, %d: %v, want %v", low, a, b, got, want)
				}
			}
		}
	}
}

// TestOnes: powers whose bits are ones, of one of fewer ones.
func TestOnes(t *testing.T) {
	for _, x := range []struct{ size, times int }{{1, 1}, {1, 2}, {1, 5}, {2, 3}, {5, 5}, {3, 1}, {25, 10}} {
		of := Small(3)
		if x.size > 1 {
			of = Small(3).ones(1, x.size)
		}
		power := new(big.Int).Sub(new(big.Int).Lsh(big.NewInt(1), uint(x.size*x.times)), big.NewInt(1))
		want := power.Exp(big.NewInt(3), power, new(big.Int).Sub(new(big.Int).Lsh(big.NewInt(1), 255), big.NewInt(19)))
		if got := of.ones(x.size, x.times); worth(got.parts).Cmp(want) != 0 {
			t.Errorf("%d, %d: %v, want %v", x.size, x.times, got.parts, want)
		}
	}
}
