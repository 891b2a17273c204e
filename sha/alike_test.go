package sha

import (
	"testing"

	"cablegram/api"
)

// firstByte is a digest by which many inputs are alike: the true one has no two that could be handed in.
func firstByte(b []byte) api.Key {
	var k api.Key
	copy(k[:1], b)
	return k
}

// B4, Alike

func TestFirstAlike(t *testing.T) {
	for _, x := range []struct {
		inputs []string
		a, b   string
		found  bool
	}{
		{nil, "", "", false},
		{[]string{"ax"}, "", "", false},
		{[]string{"ax", "ax"}, "", "", false},
		{[]string{"ax", "bx", "cx"}, "", "", false},
		{[]string{"ax", "ay"}, "ax", "ay", true},
		{[]string{"ay", "ax"}, "ay", "ax", true},
		{[]string{"a", "ax"}, "a", "ax", true},
		{[]string{"", "\x00"}, "", "\x00", true},
		{[]string{"\x00", ""}, "\x00", "", true},
		{[]string{"ax", "ax", "bx", "ax", "ay"}, "ax", "ay", true},
		{[]string{"ax", "ay", "az"}, "ax", "ay", true},
		{[]string{"ax", "bx", "by", "ay"}, "bx", "by", true},
		{[]string{"ax", "bx", "ay", "by"}, "ax", "ay", true},
		{[]string{"cx", "bx", "ax", "bx", "ay", "cy"}, "ax", "ay", true},
	} {
		var inputs [][]byte
		for _, s := range x.inputs {
			inputs = append(inputs, []byte(s))
		}
		a, b, found := firstAlike(inputs, firstByte)
		if string(a) != x.a || string(b) != x.b || found != x.found {
			t.Errorf("%q: %q %q %v, want %q %q %v", x.inputs, a, b, found, x.a, x.b, x.found)
		}
	}
}

// TestFirstAlikeAgainstPairs holds it against going through all pairs, the later one first, for all lists of up to five of six inputs.
func TestFirstAlikeAgainstPairs(t *testing.T) {
	choices := []string{"ax", "ay", "az", "bx", "by", "cx"}
	var look func(inputs [][]byte)
	look = func(inputs [][]byte) {
		wantA, wantB, want := firstPair(inputs)
		a, b, found := firstAlike(inputs, firstByte)
		if string(a) != wantA || string(b) != wantB || found != want {
			t.Fatalf("%q: %q %q %v, want %q %q %v", inputs, a, b, found, wantA, wantB, want)
		}
		if len(inputs) == 5 {
			return
		}
		for _, s := range choices {
			look(append(inputs[:len(inputs):len(inputs)], []byte(s)))
		}
	}
	look(nil)
}

func firstPair(inputs [][]byte) (a, b string, found bool) {
	for j := range inputs {
		for i := range j {
			if string(inputs[i]) != string(inputs[j]) && firstByte(inputs[i]) == firstByte(inputs[j]) {
				return string(inputs[i]), string(inputs[j]), true
			}
		}
	}
	return "", "", false
}

// TestAlikeAsksTheTrueDigest: with another one the inputs of a Meter would be alike.
func TestAlikeAsksTheTrueDigest(t *testing.T) {
	m := New(true)
	m.Sum([]byte("ax"))
	m.Sum([]byte("ay"))
	if _, _, found := firstAlike(m.Inputs(), firstByte); !found {
		t.Error("the inputs are not what was handed in")
	}
	if a, b, found := m.Alike(); a != nil || b != nil || found {
		t.Errorf("%q %q %v", a, b, found)
	}
	for _, b := range m.Inputs() {
		var none *Meter
		if digest(b) != none.Sum(b) {
			t.Errorf("%q: another digest than Sum's", b)
		}
	}
}
