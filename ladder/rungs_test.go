package ladder

import (
	"testing"

	"cablegram/api"
	"cablegram/field"
)

// multipliers are numbers of which a clamped secret is none: odd ones end with their multiples in each other's places.
func multipliers() []api.Key {
	return []api.Key{{}, {1}, {2}, {3}, {5}, {7}, {0, 1}, {255, 3}, {1, 31: 64}}
}

func points() []field.Element {
	l := []field.Element{field.Small(9), field.Small(2), field.Small(12345)}
	return append(l, l[0].Invert(), field.Small(0).Sub(l[1]))
}

// TestMultipleOnce: of 1, and of 0, which no secret is.
func TestMultipleOnce(t *testing.T) {
	for _, u := range points() {
		if x := multiple(api.Key{1}, u); !x.Equal(u) {
			t.Errorf("%x, once: %x", u.Key(), x.Key())
		}
		if x := multiple(api.Key{}, u); !x.IsZero() {
			t.Errorf("%x, by 0: %x", u.Key(), x.Key())
		}
	}
}

// TestMultipleTwice: by the curve's own formula: (u u - 1)^2 of 4 u (u u + 486662 u + 1).
func TestMultipleTwice(t *testing.T) {
	one := field.Small(1)
	for _, u := range points() {
		uu := u.Mul(u)
		below := field.Small(4).Mul(u).Mul(uu.Add(field.Small(486662).Mul(u)).Add(one))
		want := uu.Sub(one).Power(2).Mul(below.Invert())
		if x := multiple(api.Key{2}, u); !x.Equal(want) {
			t.Errorf("%x, twice: %x, want %x", u.Key(), x.Key(), want.Key())
		}
	}
}

// TestMultipleOfMultiple: which one is taken first does not matter.
func TestMultipleOfMultiple(t *testing.T) {
	l := multipliers()
	for _, u := range points()[:2] {
		for i, a := range l {
			for _, b := range l[i:] {
				if x, y := multiple(a, multiple(b, u)), multiple(b, multiple(a, u)); !x.Equal(y) {
					t.Errorf("%x, by %x and %x: %x, %x", u.Key(), a, b, x.Key(), y.Key())
				}
			}
		}
	}
}

// TestMultipleOfProduct: of small numbers, whose products are below 256.
func TestMultipleOfProduct(t *testing.T) {
	l := []byte{0, 1, 2, 3, 5, 8, 15}
	for _, u := range points()[:2] {
		for _, a := range l {
			for _, b := range l {
				if x, y := multiple(api.Key{a}, multiple(api.Key{b}, u)), multiple(api.Key{a * b}, u); !x.Equal(y) {
					t.Errorf("%x, by %d and %d: %x, want %x", u.Key(), a, b, x.Key(), y.Key())
				}
			}
		}
	}
}

func TestSwapped(t *testing.T) {
	r := rungs{field.Small(2), field.Small(3), field.Small(4), field.Small(5)}
	if got := r.swapped(false); got != r {
		t.Error("not swapped:", got)
	}
	if got, want := r.swapped(true), (rungs{r.x3, r.z3, r.x2, r.z2}); got != want {
		t.Error("swapped:", got)
	}
}
