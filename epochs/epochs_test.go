package epochs_test

import (
	"bytes"
	"crypto/ecdh"
	"crypto/sha256"
	"encoding/binary"
	"encoding/hex"
	"math"
	"math/rand"
	"slices"
	"testing"

	"cablegram/api"
	"cablegram/epochs"
	"cablegram/ladder"
)

const last = uint32(math.MaxUint32)

// secretOf is a secret of a number's own.
func secretOf(id uint32) api.Key {
	return sha256.Sum256(binary.BigEndian.AppendUint32(nil, id))
}

// epoch is what a Table is asked to have.
type epoch struct {
	id     uint32
	secret api.Key
}

// run are epochs one behind the other, over the greatest number too.
func run(from uint32, count int) []epoch {
	var l []epoch
	for i := range count {
		id := from + uint32(i)
		l = append(l, epoch{id, secretOf(id)})
	}
	return l
}

// tableOf has count epochs, from a number on.
func tableOf(t *testing.T, from uint32, count int) *epochs.Table {
	t.Helper()
	x := &epochs.Table{}
	for _, one := range run(from, count) {
		born(t, x, one.id, api.OK)
	}
	return x
}

func born(t *testing.T, x *epochs.Table, id uint32, want api.Errno) {
	t.Helper()
	if e := x.Born(id, secretOf(id)); e != want {
		t.Errorf("Born(%d): %v, want %v", id, e, want)
	}
}

func erased(t *testing.T, x *epochs.Table, below uint32, want int) {
	t.Helper()
	if n := x.Erase(below); n != want {
		t.Errorf("Erase(%d): %d, want %d", below, n, want)
	}
}

// has asks which epochs a Table has, and that it has no others.
func has(t *testing.T, what any, x *epochs.Table, want []epoch) {
	t.Helper()
	var ids, others []uint32
	for _, one := range want {
		ids = append(ids, one.id)
		if k, e := x.Secret(one.id); k != one.secret || e != api.OK {
			t.Errorf("%v: Secret(%d): %x %v, want %x", what, one.id, k, e, one.secret)
		}
		for _, by := range []uint32{1, 2, 6, 7, 1 << 8, 1 << 16, 1 << 31} {
			others = append(others, one.id-by, one.id+by)
		}
	}
	slices.Sort(ids)
	if got := x.Ids(); !slices.Equal(got, ids) {
		t.Errorf("%v: %v, want %v", what, got, ids)
	}
	for _, id := range append(others, 0, 1, last) {
		if !slices.Contains(ids, id) {
			hasNone(t, what, x, id)
		}
	}
}

// hasNone asks that nothing is told of a number.
func hasNone(t *testing.T, what any, x *epochs.Table, id uint32) {
	t.Helper()
	if k, e := x.Secret(id); k != (api.Key{}) || e != api.ErrEpoch {
		t.Errorf("%v: Secret(%d): %x %v", what, id, k, e)
	}
	if k, e := x.Public(id); k != (api.Key{}) || e != api.ErrEpoch {
		t.Errorf("%v: Public(%d): %x %v", what, id, k, e)
	}
	for _, point := range []api.Key{{9}, {}} {
		if k, e := x.Shared(id, point); k != (api.Key{}) || e != api.ErrEpoch {
			t.Errorf("%v: Shared(%d, %x): %x %v", what, id, point, k, e)
		}
	}
}

// firsts are numbers from which six go on, over the greatest one too.
func firsts() []uint32 {
	return []uint32{0, 1, 3, 250, 1000, 1<<16 - 2, 1<<31 - 3, last - 20, last - 6, last - 5, last - 4, last - 3, last - 2, last - 1, last}
}

// numbers are those about each power of 2, and the last ones.
func numbers() []uint32 {
	l := []uint32{0, last - 1, last}
	for bit := range 32 {
		l = append(l, 1<<bit-1, 1<<bit, 1<<bit+1)
	}
	slices.Sort(l)
	return slices.Compact(l)
}

func TestExamples(t *testing.T) {
	x := &epochs.Table{}
	born(t, x, 3, api.OK)
	born(t, x, 4, api.OK)
	born(t, x, 6, api.ErrArg)
	erased(t, x, 9, 1)
	if l := x.Ids(); !slices.Equal(l, []uint32{4}) {
		t.Error(l)
	}
	if k, e := x.Public(3); k != (api.Key{}) || e != api.ErrEpoch {
		t.Errorf("%x %v", k, e)
	}
}

// O1

func TestNewTable(t *testing.T) {
	x := &epochs.Table{}
	has(t, "new", x, nil)
	for _, n := range numbers() {
		erased(t, x, n, 0)
		hasNone(t, "new", x, n)
	}
	has(t, "behind Erase", x, nil)
}

// TestBorn: the first one has any number, each of the others one that goes on.
func TestBorn(t *testing.T) {
	for _, from := range firsts() {
		x := &epochs.Table{}
		for i := range 6 {
			born(t, x, from+uint32(i), api.OK)
			has(t, from, x, run(from, i+1))
		}
	}
	for _, id := range numbers() {
		has(t, id, tableOf(t, id, 1), run(id, 1))
	}
}

// TestBornOfWrongNumbers changes nothing.
func TestBornOfWrongNumbers(t *testing.T) {
	for _, from := range firsts() {
		for count := 1; count < 6; count++ {
			x, next := tableOf(t, from, count), from+uint32(count)
			for _, id := range append(numbers(), next-1, next-2, next+1, next+2, from, from-1, next^1<<31, next^1<<16, next^1<<8) {
				if id == next {
					continue
				}
				if e := x.Born(id, api.Key{1}); e != api.ErrArg {
					t.Errorf("%d behind %d: %v", id, next-1, e)
				}
			}
			has(t, from, x, run(from, count))
			born(t, x, next, api.OK)
			has(t, from, x, run(from, count+1))
		}
	}
}

// TestBornOfFull: whichever number comes, ErrFull stands ahead of ErrArg.
func TestBornOfFull(t *testing.T) {
	for _, from := range firsts() {
		x := tableOf(t, from, 6)
		for _, id := range append(numbers(), from+6, from+7, from+5, from) {
			if e := x.Born(id, api.Key{1}); e != api.ErrFull {
				t.Errorf("%d behind %d: %v", id, from+5, e)
			}
		}
		has(t, from, x, run(from, 6))
	}
}

// TestBornOverTheGreatest: behind it comes 0, and then each as ever.
func TestBornOverTheGreatest(t *testing.T) {
	x := tableOf(t, last-1, 2)
	born(t, x, 1, api.ErrArg)
	born(t, x, last, api.ErrArg)
	born(t, x, 0, api.OK)
	born(t, x, last, api.ErrArg) // the greatest number is there, but not the last one's
	born(t, x, 0, api.ErrArg)
	born(t, x, 1, api.OK)
	if l := x.Ids(); !slices.Equal(l, []uint32{0, 1, last - 1, last}) {
		t.Error(l)
	}
}

// TestRoomBehindErase: what was erased is made room of, as often as that is done.
func TestRoomBehindErase(t *testing.T) {
	x := tableOf(t, 0, 6)
	for id := uint32(6); id < 500; id++ {
		born(t, x, id, api.ErrFull)
		erased(t, x, id-5, 1)
		born(t, x, id, api.OK)
		has(t, id, x, run(id-5, 6))
	}
}

// TestSecretsOfAllKinds: any key is one, and the same one may come twice.
func TestSecretsOfAllKinds(t *testing.T) {
	full := api.Key(bytes.Repeat([]byte{255}, 32))
	l := []epoch{{8, api.Key{}}, {9, full}, {10, full}, {11, api.Key{7}}, {12, api.Key{31: 128}}}
	x := &epochs.Table{}
	for _, one := range l {
		if e := x.Born(one.id, one.secret); e != api.OK {
			t.Error(one.id, e)
		}
	}
	has(t, "all", x, l)
	for _, one := range l {
		public(t, x, one)
		shared(t, x, one, ladder.Public(secretOf(1)))
	}
}

// O2

// private is a secret by the library.
func private(t *testing.T, k api.Key) *ecdh.PrivateKey {
	t.Helper()
	s, err := ecdh.X25519().NewPrivateKey(k[:])
	if err != nil {
		t.Fatal(err)
	}
	return s
}

func public(t *testing.T, x *epochs.Table, one epoch) {
	t.Helper()
	want := api.Key(private(t, one.secret).PublicKey().Bytes())
	if k, e := x.Public(one.id); k != want || e != api.OK {
		t.Errorf("Public(%d): %x %v, want %x", one.id, k, e, want)
	}
}

func shared(t *testing.T, x *epochs.Table, one epoch, point api.Key) {
	t.Helper()
	p, err := ecdh.X25519().NewPublicKey(point[:])
	if err != nil {
		t.Fatal(err)
	}
	want, err := private(t, one.secret).ECDH(p)
	if err != nil {
		t.Fatal(err)
	}
	if k, e := x.Shared(one.id, point); !bytes.Equal(k[:], want) || e != api.OK {
		t.Errorf("Shared(%d, %x): %x %v, want %x", one.id, point, k, e, want)
	}
}

// TestKeys holds public keys, and what is shared, against the library's, as often as they are asked.
func TestKeys(t *testing.T) {
	points := []api.Key{{9}, {2}, ladder.Public(secretOf(77)), ladder.Public(api.Key{})}
	for _, from := range []uint32{0, 100, last - 2} {
		x := tableOf(t, from, 6)
		for range 2 {
			for _, one := range run(from, 6) {
				public(t, x, one)
				for _, point := range points {
					shared(t, x, one, point)
				}
			}
		}
		has(t, from, x, run(from, 6))
	}
}

// TestKeysOfPrintedExample: RFC 7748's, section 6.1.
func TestKeysOfPrintedExample(t *testing.T) {
	x := &epochs.Table{}
	if e := x.Born(5, unhex(t, "77076d0a7318a57d3c16c17251b26645df4c2f87ebc0992ab177fba51db92c2a")); e != api.OK {
		t.Fatal(e)
	}
	if k, e := x.Public(5); k != unhex(t, "8520f0098930a754748b7ddcb43ef75a0dbf3a0d26381af4eba4a98eaa9b4e6a") || e != api.OK {
		t.Errorf("%x %v", k, e)
	}
	if k, e := x.Shared(5, unhex(t, "de9edb7d7b7dc1b4d35b61c2ece435373f8343c85b78674dadfc7e146f882b4f")); k != unhex(t, "4a5d9d5ba4ce2de1728e3bf480350f25e07e21c947d19e3376f09b3c1e161742") || e != api.OK {
		t.Errorf("%x %v", k, e)
	}
}

func unhex(t *testing.T, s string) api.Key {
	t.Helper()
	b, err := hex.DecodeString(s)
	if err != nil || len(b) != 32 {
		t.Fatal(s, err)
	}
	return api.Key(b)
}

// wrongPoints are of small order, or not below p, or have the highest bit.
func wrongPoints(t *testing.T) []api.Key {
	t.Helper()
	high := ladder.Public(secretOf(1))
	high[31] |= 128
	return []api.Key{
		{},
		{1},
		unhex(t, "e0eb7a7c3b41b8ae1656e3faf19fc46ada098deb9c32b1fd866205165f49b800"),
		unhex(t, "5f9c95bca3508c24b1d0b1559c83ef5b04445cc4581c8e86d8224eddd09f1157"),
		unhex(t, "ecffffffffffffffffffffffffffffffffffffffffffffffffffffffffffff7f"), // p - 1
		unhex(t, "edffffffffffffffffffffffffffffffffffffffffffffffffffffffffffff7f"),
		unhex(t, "efffffffffffffffffffffffffffffffffffffffffffffffffffffffffffff7f"), // p and 2: no product is 0
		api.Key(bytes.Repeat([]byte{255}, 32)),
		high,
	}
}

// TestSharedOfWrongPoints: ErrPoint of an epoch that is there, ErrEpoch of one that is not.
func TestSharedOfWrongPoints(t *testing.T) {
	x := tableOf(t, 4, 3)
	for _, point := range wrongPoints(t) {
		for _, id := range []uint32{4, 5, 6} {
			if k, e := x.Shared(id, point); k != (api.Key{}) || e != api.ErrPoint {
				t.Errorf("Shared(%d, %x): %x %v", id, point, k, e)
			}
		}
		for _, id := range []uint32{0, 3, 7, last} {
			if k, e := x.Shared(id, point); k != (api.Key{}) || e != api.ErrEpoch {
				t.Errorf("Shared(%d, %x): %x %v", id, point, k, e)
			}
		}
	}
	has(t, "then", x, run(4, 3))
}

// TestBothShareOne: of two Tables, each by its own secret.
func TestBothShareOne(t *testing.T) {
	x, y := tableOf(t, 10, 2), tableOf(t, 20, 2)
	mine, e := x.Public(11)
	theirs, f := y.Public(20)
	if e != api.OK || f != api.OK {
		t.Fatal(e, f)
	}
	one, e := x.Shared(11, theirs)
	other, f := y.Shared(20, mine)
	if one != other || one == (api.Key{}) || e != api.OK || f != api.OK {
		t.Errorf("%x %v, %x %v", one, e, other, f)
	}
}

// O3

// TestErase: all below the number go, but the last one.
func TestErase(t *testing.T) {
	for _, from := range []uint32{0, 1, 3, 1000, 1<<31 - 3, last - 20, last - 5} {
		for count := 1; count <= 6; count++ {
			for more := range count + 3 {
				below := uint64(from) + uint64(more)
				if below > uint64(last) {
					continue
				}
				x, gone := tableOf(t, from, count), min(more, count-1)
				erased(t, x, uint32(below), gone)
				has(t, below, x, run(from+uint32(gone), count-gone))
				erased(t, x, uint32(below), 0)
				has(t, "twice", x, run(from+uint32(gone), count-gone))
			}
			x := tableOf(t, from, count)
			for _, below := range []uint32{0, from / 2, from} {
				erased(t, x, below, 0)
			}
			has(t, from, x, run(from, count))
			erased(t, x, last, count-1)
			has(t, "all", x, run(from+uint32(count-1), 1))
		}
	}
}

// TestEraseOverTheGreatest: numbers alone are asked, so that those behind the greatest one go ahead of it.
func TestEraseOverTheGreatest(t *testing.T) {
	all := run(last-1, 5) // last - 1, last, 0, 1, 2
	for _, c := range []struct {
		below uint32
		stay  []int
	}{
		{0, []int{0, 1, 2, 3, 4}},
		{1, []int{0, 1, 3, 4}},
		{2, []int{0, 1, 4}},
		{3, []int{0, 1, 4}},
		{last - 1, []int{0, 1, 4}},
		{last, []int{1, 4}},
	} {
		x := tableOf(t, last-1, 5)
		var stay []epoch
		for _, i := range c.stay {
			stay = append(stay, all[i])
		}
		erased(t, x, c.below, 5-len(stay))
		has(t, c.below, x, stay)
		born(t, x, 4, api.ErrArg)
		born(t, x, 3, api.OK)
		has(t, c.below, x, append(stay, epoch{3, secretOf(3)}))
	}
	x := tableOf(t, last, 2) // 0 is the last one, and stays
	erased(t, x, last, 0)
	has(t, "0 behind the greatest", x, run(last, 2))
}

// TestTheLastOneMayGoLater: once there is another one behind it.
func TestTheLastOneMayGoLater(t *testing.T) {
	x := tableOf(t, 3, 2)
	erased(t, x, 100, 1)
	erased(t, x, 100, 0)
	born(t, x, 5, api.OK)
	has(t, "behind Born", x, run(4, 2))
	erased(t, x, 100, 1)
	has(t, "erased", x, run(5, 1))
}

// TestIdsAreTheirOwn: whoever changes them changes nothing that the Table has, nor what it answered before.
func TestIdsAreTheirOwn(t *testing.T) {
	x := tableOf(t, 5, 4)
	one, two := x.Ids(), x.Ids()
	clear(one)
	one = append(one[:0], 99)
	has(t, "cleared", x, run(5, 4))
	erased(t, x, 7, 2)
	born(t, x, 9, api.OK)
	if !slices.Equal(two, []uint32{5, 6, 7, 8}) || one[0] != 99 {
		t.Error("a later call changed an answer")
	}
}

// O4

// TestErasedIsNeverToldAgain: not by its number, which cannot be born again either, whatever is done then.
func TestErasedIsNeverToldAgain(t *testing.T) {
	x := tableOf(t, 0, 1)
	for id := uint32(1); id < 60; id++ {
		born(t, x, id, api.OK)
		if id%4 == 0 {
			erased(t, x, id, 4)
		}
		for gone := range id / 4 * 4 {
			hasNone(t, id, x, gone)
			want := api.ErrArg
			if len(x.Ids()) == 6 {
				want = api.ErrFull
			}
			born(t, x, gone, want)
		}
	}
}

// TestAnswersStay: what was told ahead of Erase is still what it was.
func TestAnswersStay(t *testing.T) {
	x := tableOf(t, 0, 3)
	k, e := x.Secret(1)
	erased(t, x, 2, 2)
	if k != secretOf(1) || e != api.OK {
		t.Errorf("%x %v", k, e)
	}
}

// TestTablesAreTheirOwn: what is done with one is nothing to another one.
func TestTablesAreTheirOwn(t *testing.T) {
	x, y := tableOf(t, 0, 4), tableOf(t, 0, 4)
	erased(t, x, 3, 3)
	has(t, "the other one", y, run(0, 4))
	born(t, y, 4, api.OK)
	has(t, "the one", x, run(3, 1))
}

// TestByChance holds Tables against a list in the order in which they were born.
func TestByChance(t *testing.T) {
	r := rand.New(rand.NewSource(15))
	for range 200 {
		x, l := &epochs.Table{}, []epoch(nil)
		near := firsts()[r.Intn(len(firsts()))]
		for range 100 {
			id := near + uint32(r.Intn(9)) - 4
			if len(l) > 0 && r.Intn(3) > 0 {
				id = l[len(l)-1].id + uint32(r.Intn(5)) - 1
			}
			if r.Intn(4) == 0 {
				var left []epoch
				for i, one := range l {
					if one.id >= id || i == len(l)-1 {
						left = append(left, one)
					}
				}
				erased(t, x, id, len(l)-len(left))
				l = left
			} else {
				var secret api.Key
				r.Read(secret[:])
				want := api.OK
				switch {
				case len(l) == 6:
					want = api.ErrFull
				case len(l) > 0 && id != l[len(l)-1].id+1:
					want = api.ErrArg
				default:
					l = append(l, epoch{id, secret})
				}
				if e := x.Born(id, secret); e != want {
					t.Errorf("Born(%d): %v, want %v", id, e, want)
				}
			}
			has(t, "by chance", x, l)
			if t.Failed() {
				return
			}
		}
		if len(l) > 0 {
			public(t, x, l[r.Intn(len(l))])
			shared(t, x, l[r.Intn(len(l))], api.Key{9})
		}
	}
}

// R1

// TestNilTable has nothing, and keeps nothing.
func TestNilTable(t *testing.T) {
	var x *epochs.Table
	for _, id := range []uint32{0, 1, last} {
		if e := x.Born(id, secretOf(id)); e != api.ErrFull {
			t.Error(id, e)
		}
		erased(t, x, id, 0)
	}
	has(t, "nil", x, nil)
}
