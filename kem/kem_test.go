package kem_test

import (
	"bytes"
	"crypto/ecdh"
	"crypto/hkdf"
	"crypto/sha256"
	"encoding/hex"
	"math/rand"
	"slices"
	"sync"
	"testing"

	"cablegram/api"
	"cablegram/kem"
	"cablegram/ladder"
	"cablegram/sha"
)

// digestsOfKey is how many digests a key needs: of two keyed ones the inner one and the outer one.
const digestsOfKey = 4

func noise(seed int64, count int) []api.Key {
	r := rand.New(rand.NewSource(seed))
	l := make([]api.Key, count)
	for i := range l {
		r.Read(l[i][:])
	}
	return l
}

// steps is the key of bytes that begin with one, each one more than the one ahead of it.
func steps(from byte) api.Key {
	var k api.Key
	for i := range k {
		k[i] = from + byte(i)
	}
	return k
}

func full() api.Key { return api.Key(bytes.Repeat([]byte{255}, 32)) }

func unhex(t *testing.T, s string) api.Key {
	t.Helper()
	b, err := hex.DecodeString(s)
	if err != nil || len(b) != 32 {
		t.Fatal(s, err)
	}
	return api.Key(b)
}

func flipped(k api.Key, bit int) api.Key {
	k[bit/8] ^= 1 << (bit % 8)
	return k
}

// secrets are some at the edges, of which some are no clamped ones, and others.
func secrets() []api.Key {
	return append(noise(1, 3), api.Key{}, api.Key{7}, api.Key{31: 128}, api.Key{31: 64}, full())
}

// wrongPoints are of small order, or not below p, or have the highest bit.
func wrongPoints(t *testing.T) []api.Key {
	t.Helper()
	high := ladder.Public(steps(0))
	high[31] |= 128
	l := []api.Key{
		{},
		{1},
		unhex(t, "e0eb7a7c3b41b8ae1656e3faf19fc46ada098deb9c32b1fd866205165f49b800"),
		unhex(t, "5f9c95bca3508c24b1d0b1559c83ef5b04445cc4581c8e86d8224eddd09f1157"),
		high,
		{9, 31: 128},
		{31: 128},
		full(),
	}
	for n := 0xec; n <= 0xff; n++ { // p - 1, p, and all up to 2^255 - 1
		k := full()
		k[0], k[31] = byte(n), 127
		l = append(l, k)
	}
	return l
}

// plainMixed is Mixed by the library's HKDF.
func plainMixed(t *testing.T, l [7]api.Key) api.Key {
	t.Helper()
	var all []byte
	for _, k := range l[:5] {
		all = append(all, k[:]...)
	}
	k, err := hkdf.Extract(sha256.New, all, []byte("kem"))
	if err != nil {
		t.Fatal(err)
	}
	info := "\x04seal" + "\x00\x00\x00\x20" + string(l[5][:]) + "\x00\x00\x00\x20" + string(l[6][:])
	key, err := hkdf.Expand(sha256.New, k, info, 32)
	if err != nil {
		t.Fatal(err)
	}
	return api.Key(key)
}

// plainMult is a product by the library.
func plainMult(t *testing.T, secret, point api.Key) api.Key {
	t.Helper()
	s, err := ecdh.X25519().NewPrivateKey(secret[:])
	if err != nil {
		t.Fatal(err)
	}
	p, err := ecdh.X25519().NewPublicKey(point[:])
	if err != nil {
		t.Fatal(err)
	}
	k, err := s.ECDH(p)
	if err != nil {
		t.Fatal(err)
	}
	return api.Key(k)
}

func plainPublic(t *testing.T, secret api.Key) api.Key { return plainMult(t, secret, api.Key{9}) }

// plainMake is what Make answers, by the library.
func plainMake(t *testing.T, secret, chain, epoch, sent, got api.Key) (eph, key api.Key) {
	t.Helper()
	eph = plainPublic(t, secret)
	return eph, plainMixed(t, [7]api.Key{plainMult(t, secret, chain), plainMult(t, secret, epoch), eph, chain, epoch, sent, got})
}

func mixed(m *sha.Meter, l [7]api.Key) api.Key {
	return kem.Mixed(m, l[0], l[1], l[2], l[3], l[4], l[5], l[6])
}

// made is what is made by a secret for those of two others.
func made(t *testing.T, secret, chain, epoch, sent, got api.Key) (eph, key api.Key) {
	t.Helper()
	eph, key, e := kem.Make(nil, secret, ladder.Public(chain), ladder.Public(epoch), sent, got)
	if e != api.OK {
		t.Fatal(e)
	}
	return eph, key
}

// takes asks for what is taken; of an error, that it comes with nothing.
func takes(t *testing.T, what any, chain, epoch *ladder.Pair, eph, sent, got, want api.Key, wantError api.Errno) {
	t.Helper()
	if k, e := kem.Take(nil, chain, epoch, eph, sent, got); k != want || e != wantError {
		t.Errorf("%v: %x %v, want %x %v", what, k, e, want, wantError)
	}
}

func TestExamples(t *testing.T) {
	sent, got := api.Key{1}, api.Key{2}
	p, q := ladder.NewPair(api.Key{7}), ladder.NewPair(api.Key{9})
	eph, key := made(t, api.Key{5}, api.Key{7}, api.Key{9}, sent, got)
	takes(t, "one key", p, q, eph, sent, got, key, api.OK)
	if k, e := kem.Take(nil, p, q, eph, sent, api.Key{3}); k == key || k == (api.Key{}) || e != api.OK {
		t.Errorf("with another got: %x %v", k, e)
	}
	if eph, k, e := kem.Make(nil, api.Key{5}, api.Key{}, q.Public(), sent, got); e != api.ErrPoint || eph != (api.Key{}) || k != (api.Key{}) {
		t.Errorf("with chain 0: %x %x %v", eph, k, e)
	}
}

// P1

// TestMixedOfAnotherProgram holds keys against those that another program made.
func TestMixedOfAnotherProgram(t *testing.T) {
	all := func(k api.Key) [7]api.Key { return [7]api.Key{k, k, k, k, k, k, k} }
	for i, x := range []struct {
		l    [7]api.Key
		want string
	}{
		{all(api.Key{}), "15153f5be4c33843b38ef7c7651f58ec6128b5942801b4726a46c08f2cf193d0"},
		{[7]api.Key{{1}, {2}, {3}, {4}, {5}, {6}, {7}}, "67cd38488df68f66f42f851bef80093ca3f1b379fcbaa9e9bf6ab7837e992913"},
		{[7]api.Key{steps(0), steps(32), steps(64), steps(96), steps(128), steps(160), steps(192)}, "283a49e9de80dd3165d1f582ad49d9ce53f20784bb2634438def04486068ef11"},
		{all(full()), "427ab230078148d2dead6f36af090d31d77e0f7a277133b44ba057c84b10676d"},
	} {
		if k := mixed(nil, x.l); k != unhex(t, x.want) {
			t.Errorf("%d: %x, want %s", i, k, x.want)
		}
	}
}

// TestMixed holds keys against the library's: of any keys, that need be no points.
func TestMixed(t *testing.T) {
	l := append(noise(2, 700), full(), api.Key{}, api.Key{1}, api.Key{31: 1}, full(), full(), api.Key{})
	m := sha.New(false)
	for part := range slices.Chunk(l, 7) {
		x := [7]api.Key(part)
		want := plainMixed(t, x)
		if k, again := mixed(m, x), mixed(nil, x); k != want || again != want {
			t.Errorf("%x: %x, %x, want %x", x, k, again, want)
		}
	}
}

// TestMixedHangsOnEachBit: of each of the seven keys.
func TestMixedHangsOnEachBit(t *testing.T) {
	for _, x := range [][7]api.Key{{}, [7]api.Key(noise(3, 7))} {
		seen := map[api.Key]bool{mixed(nil, x): true}
		for i := range x {
			for bit := range 256 {
				y := x
				y[i] = flipped(x[i], bit)
				k := mixed(nil, y)
				if seen[k] {
					t.Errorf("key %d, bit %d: a key that was there", i, bit)
				}
				seen[k] = true
			}
		}
	}
}

// TestMixedHangsOnPlaces: two that change theirs make another key.
func TestMixedHangsOnPlaces(t *testing.T) {
	x := [7]api.Key(noise(4, 7))
	seen := map[api.Key]bool{mixed(nil, x): true}
	for i := range x {
		for j := range i {
			y := x
			y[i], y[j] = x[j], x[i]
			k := mixed(nil, y)
			if seen[k] {
				t.Errorf("%d and %d change places: a key that was there", i, j)
			}
			seen[k] = true
		}
	}
}

// TestMixedDigestsByItsMeter: each digest that is needed, and no other one.
func TestMixedDigestsByItsMeter(t *testing.T) {
	x := [7]api.Key(noise(5, 7))
	m := sha.New(true)
	mixed(m, x)
	inputs := m.Inputs()
	if m.Count() != digestsOfKey || len(inputs) != digestsOfKey {
		t.Fatalf("%d digests, %d inputs", m.Count(), len(inputs))
	}
	salted, one := bytes.Repeat([]byte{0x36}, 64), []byte(nil)
	for i, c := range []byte("kem") {
		salted[i] ^= c
	}
	for _, k := range x[:5] {
		one = append(one, k[:]...)
	}
	if !bytes.Equal(inputs[0], append(salted, one...)) {
		t.Errorf("the first one: of %x", inputs[0])
	}
}

// P2

// TestMakeOfAnotherProgram holds keys against those that another program made.
func TestMakeOfAnotherProgram(t *testing.T) {
	for i, x := range []struct {
		secret, chain, epoch, sent, got api.Key
		eph, want                       string
	}{
		{api.Key{5}, api.Key{7}, api.Key{9}, api.Key{1}, api.Key{2}, "2fe57da347cd62431528daac5fbb290730fff684afc4cfc2ed90995f58cb3b74", "25d6a5ce4feac5dd9df683f49012926e6a1e3a8541375e09987b69bdeb4f4479"},
		{api.Key{}, api.Key{}, api.Key{}, api.Key{}, api.Key{}, "2fe57da347cd62431528daac5fbb290730fff684afc4cfc2ed90995f58cb3b74", "eabdf22c132d8fa08f9882959f13c386d6936eee3e6e1b4991dee4f915b889e2"},
		{full(), steps(0), steps(100), steps(50), steps(51), "847c0d2c375234f365e660955187a3735a0f7613d1609d3a6a4d8c53aeaa5a22", "2285c897011770987b5616768b3491496fb9823e65b94ae436ac0ae4fa1c531c"},
		{steps(1), api.Key{7}, api.Key{9}, api.Key{}, full(), "07a37cbc142093c8b755dc1b10e86cb426374ad16aa853ed0bdfc0b2b86d1c7c", "7fc5d55a16f3bbda18920ec77d5760dd276a4c4959d44338aab4a0b20a852aef"},
	} {
		eph, key := made(t, x.secret, x.chain, x.epoch, x.sent, x.got)
		if eph != unhex(t, x.eph) || key != unhex(t, x.want) {
			t.Errorf("%d: %x %x, want %s %s", i, eph, key, x.eph, x.want)
		}
		takes(t, i, ladder.NewPair(x.chain), ladder.NewPair(x.epoch), eph, x.sent, x.got, key, api.OK)
	}
}

// TestMake holds both answers against the library's: of all secrets, and of public keys that nobody may have a secret of, or that are one.
func TestMake(t *testing.T) {
	points := []api.Key{{9}, {2}, ladder.Public(steps(3)), {5, 31: 64}}
	l := noise(6, 2)
	for _, secret := range secrets() {
		for _, chain := range append(points, plainPublic(t, secret)) {
			for _, epoch := range points {
				m := sha.New(false)
				wantEph, want := plainMake(t, secret, chain, epoch, l[0], l[1])
				eph, key, e := kem.Make(m, secret, chain, epoch, l[0], l[1])
				if eph != wantEph || key != want || e != api.OK {
					t.Errorf("%x, for %x and %x: %x %x %v, want %x %x", secret, chain, epoch, eph, key, e, wantEph, want)
				}
				if m.Count() != digestsOfKey {
					t.Errorf("%x, for %x and %x: %d digests", secret, chain, epoch, m.Count())
				}
			}
		}
	}
}

// TestMakeOfTrails: of any sent and got, 0 and alike ones too.
func TestMakeOfTrails(t *testing.T) {
	chain, epoch := ladder.Public(steps(1)), ladder.Public(steps(2))
	seen := map[api.Key]bool{}
	trails := append(noise(7, 3), api.Key{}, api.Key{1}, full())
	for _, sent := range trails {
		for _, got := range trails {
			_, want := plainMake(t, steps(0), chain, epoch, sent, got)
			_, key, e := kem.Make(nil, steps(0), chain, epoch, sent, got)
			if key != want || e != api.OK || seen[key] {
				t.Errorf("%x, %x: %x %v, want %x", sent, got, key, e, want)
			}
			seen[key] = true
		}
	}
}

// TestMakeOfWrongPoints: of one, of the other one, and of both: nothing is answered, and nothing digested.
func TestMakeOfWrongPoints(t *testing.T) {
	right := ladder.Public(steps(9))
	m := sha.New(true)
	for _, wrong := range wrongPoints(t) {
		for _, x := range [][2]api.Key{{wrong, right}, {right, wrong}, {wrong, wrong}, {wrong, {}}, {{}, wrong}} {
			for _, secret := range []api.Key{{}, steps(0), full()} {
				eph, key, e := kem.Make(m, secret, x[0], x[1], api.Key{1}, api.Key{2})
				if eph != (api.Key{}) || key != (api.Key{}) || e != api.ErrPoint {
					t.Errorf("%x, for %x and %x: %x %x %v", secret, x[0], x[1], eph, key, e)
				}
			}
		}
	}
	if m.Count() != 0 || len(m.Inputs()) != 0 {
		t.Errorf("%d digests", m.Count())
	}
}

// P3

// TestTake holds keys against the library's: of all secrets, one for both too.
func TestTake(t *testing.T) {
	l := noise(8, 3)
	eph := plainPublic(t, l[0])
	for _, chain := range secrets() {
		for _, epoch := range secrets() {
			want := plainMixed(t, [7]api.Key{plainMult(t, chain, eph), plainMult(t, epoch, eph), eph, plainPublic(t, chain), plainPublic(t, epoch), l[1], l[2]})
			takes(t, chain, ladder.NewPair(chain), ladder.NewPair(epoch), eph, l[1], l[2], want, api.OK)
		}
		p, k := ladder.NewPair(chain), plainMult(t, chain, eph)
		want := plainMixed(t, [7]api.Key{k, k, eph, plainPublic(t, chain), plainPublic(t, chain), l[1], l[2]})
		takes(t, "one pair twice", p, p, eph, l[1], l[2], want, api.OK)
	}
}

// TestTakeOfAnyPoint: an eph that nobody may have a secret of, and the pair's own public key.
func TestTakeOfAnyPoint(t *testing.T) {
	chain, epoch := steps(11), steps(12)
	p, q := ladder.NewPair(chain), ladder.NewPair(epoch)
	for _, eph := range []api.Key{{2}, {9}, {5, 31: 64}, p.Public(), q.Public()} {
		want := plainMixed(t, [7]api.Key{plainMult(t, chain, eph), plainMult(t, epoch, eph), eph, plainPublic(t, chain), plainPublic(t, epoch), {1}, {2}})
		takes(t, eph, p, q, eph, api.Key{1}, api.Key{2}, want, api.OK)
	}
}

// TestTakeOfWrongPoints: nothing is answered, and nothing digested; then all is as it was.
func TestTakeOfWrongPoints(t *testing.T) {
	m := sha.New(true)
	p, q := ladder.NewPair(steps(1)), ladder.NewPair(steps(2))
	for _, wrong := range wrongPoints(t) {
		if k, e := kem.Take(m, p, q, wrong, api.Key{1}, api.Key{2}); k != (api.Key{}) || e != api.ErrPoint {
			t.Errorf("%x: %x %v", wrong, k, e)
		}
	}
	if m.Count() != 0 || len(m.Inputs()) != 0 {
		t.Errorf("%d digests", m.Count())
	}
	eph, key := made(t, steps(0), steps(1), steps(2), api.Key{1}, api.Key{2})
	takes(t, "then", p, q, eph, api.Key{1}, api.Key{2}, key, api.OK)
}

// TestTakeDigestsByItsMeter: those that Make needs, of the same bytes.
func TestTakeDigestsByItsMeter(t *testing.T) {
	one, other := sha.New(true), sha.New(true)
	p, q := ladder.NewPair(steps(1)), ladder.NewPair(steps(2))
	eph, _, _ := kem.Make(one, steps(0), p.Public(), q.Public(), api.Key{1}, api.Key{2})
	for range 2 {
		kem.Take(other, p, q, eph, api.Key{1}, api.Key{2})
	}
	made, taken := one.Inputs(), other.Inputs()
	if one.Count() != digestsOfKey || other.Count() != 2*digestsOfKey || !slices.EqualFunc(append(made, made...), taken, bytes.Equal) {
		t.Errorf("%d and %d digests, of %x and %x", one.Count(), other.Count(), made, taken)
	}
}

// TestTakeLeavesPairs: of what is handed in nothing is changed.
func TestTakeLeavesPairs(t *testing.T) {
	eph := ladder.Public(steps(0))
	for _, secret := range secrets() {
		p, q := ladder.NewPair(secret), ladder.NewPair(steps(2))
		one, _ := kem.Take(nil, p, q, eph, api.Key{1}, api.Key{2})
		shared, e := p.Shared(api.Key{9})
		if p.Secret() != secret || q.Secret() != steps(2) || p.Public() != plainPublic(t, secret) || shared != plainPublic(t, secret) || e != api.OK {
			t.Errorf("%x: %x, %x, %x %v", secret, p.Secret(), p.Public(), shared, e)
		}
		takes(t, "once more", p, q, eph, api.Key{1}, api.Key{2}, one, api.OK)
	}
}

// R1

// TestNilPairs share with nobody: nothing can be taken with them.
func TestNilPairs(t *testing.T) {
	m := sha.New(false)
	p := ladder.NewPair(steps(1))
	for i, x := range [][2]*ladder.Pair{{nil, p}, {p, nil}, {nil, nil}} {
		for _, eph := range []api.Key{{}, {9}, ladder.Public(steps(0)), full()} {
			if k, e := kem.Take(m, x[0], x[1], eph, api.Key{1}, api.Key{2}); k != (api.Key{}) || e != api.ErrPoint {
				t.Errorf("%d, with %x: %x %v", i, eph, k, e)
			}
		}
	}
	if m.Count() != 0 {
		t.Errorf("%d digests", m.Count())
	}
}

// TestZeroPairs are those of the secret 0.
func TestZeroPairs(t *testing.T) {
	eph, key := made(t, steps(0), api.Key{}, api.Key{}, api.Key{1}, api.Key{2})
	takes(t, "zero", &ladder.Pair{}, &ladder.Pair{}, eph, api.Key{1}, api.Key{2}, key, api.OK)
}

// P4

// TestWhatIsMadeIsTaken: by both secrets, whichever they are.
func TestWhatIsMadeIsTaken(t *testing.T) {
	l := noise(9, 2)
	for _, secret := range secrets() {
		for _, chain := range secrets() {
			for _, epoch := range []api.Key{{}, steps(5), chain, secret} {
				eph, key := made(t, secret, chain, epoch, l[0], l[1])
				takes(t, secret, ladder.NewPair(chain), ladder.NewPair(epoch), eph, l[0], l[1], key, api.OK)
			}
		}
	}
}

// taker is what Take is told.
type taker struct{ chain, epoch, eph, sent, got api.Key }

func (x taker) take(t *testing.T) api.Key {
	t.Helper()
	k, e := kem.Take(nil, ladder.NewPair(x.chain), ladder.NewPair(x.epoch), x.eph, x.sent, x.got)
	if e != api.OK {
		t.Fatal(e)
	}
	return k
}

// TestAnotherTakerHasAnotherKey: if one thing alone is another one, or two change places.
func TestAnotherTakerHasAnotherKey(t *testing.T) {
	l := noise(10, 6)
	eph, key := made(t, l[0], l[1], l[2], l[3], l[4])
	right := taker{l[1], l[2], eph, l[3], l[4]}
	if k := right.take(t); k != key {
		t.Fatalf("%x, want %x", k, key)
	}
	seen := map[api.Key]string{key: "what was made"}
	for what, x := range map[string]taker{
		"another chain":              {l[5], l[2], eph, l[3], l[4]},
		"another epoch":              {l[1], l[5], eph, l[3], l[4]},
		"two others":                 {l[5], l[5], eph, l[3], l[4]},
		"chain and epoch turned":     {l[2], l[1], eph, l[3], l[4]},
		"chain twice":                {l[1], l[1], eph, l[3], l[4]},
		"epoch twice":                {l[2], l[2], eph, l[3], l[4]},
		"another eph":                {l[1], l[2], ladder.Public(l[5]), l[3], l[4]},
		"another sent":               {l[1], l[2], eph, l[5], l[4]},
		"another got":                {l[1], l[2], eph, l[3], l[5]},
		"sent and got turned":        {l[1], l[2], eph, l[4], l[3]},
		"sent twice":                 {l[1], l[2], eph, l[3], l[3]},
		"got twice":                  {l[1], l[2], eph, l[4], l[4]},
		"nothing sent":               {l[1], l[2], eph, api.Key{}, l[4]},
		"nothing got":                {l[1], l[2], eph, l[3], api.Key{}},
		"the sender's secret":        {l[0], l[2], eph, l[3], l[4]},
		"the sender's secret, twice": {l[0], l[0], eph, l[3], l[4]},
	} {
		k := x.take(t)
		if other, there := seen[k]; there {
			t.Errorf("%s: the key of %s", what, other)
		}
		seen[k] = what
	}
}

// TestEachBitOfTrails makes another key, for one who takes.
func TestEachBitOfTrails(t *testing.T) {
	l := noise(11, 5)
	eph, key := made(t, l[0], l[1], l[2], l[3], l[4])
	seen := map[api.Key]bool{key: true}
	for bit := range 256 {
		for _, x := range []taker{{l[1], l[2], eph, flipped(l[3], bit), l[4]}, {l[1], l[2], eph, l[3], flipped(l[4], bit)}} {
			k := x.take(t)
			if seen[k] {
				t.Errorf("bit %d: a key that was there", bit)
			}
			seen[k] = true
		}
	}
}

// TestUnlikeSecretsOfOneNumber: what Clamp takes away makes no other key.
func TestUnlikeSecretsOfOneNumber(t *testing.T) {
	l := noise(12, 5)
	eph, key := made(t, l[0], l[1], l[2], l[3], l[4])
	for _, bit := range []int{0, 1, 2, 254, 255} {
		if a, b := made(t, flipped(l[0], bit), l[1], l[2], l[3], l[4]); a != eph || b != key {
			t.Errorf("bit %d of the secret: %x %x, want %x %x", bit, a, b, eph, key)
		}
		takes(t, bit, ladder.NewPair(flipped(l[1], bit)), ladder.NewPair(flipped(l[2], bit)), eph, l[3], l[4], key, api.OK)
	}
}

// R6

// TestUsedBySeveral: pairs and a Meter that several use at once, first asked by all of them.
func TestUsedBySeveral(t *testing.T) {
	eph, key := made(t, steps(0), steps(1), steps(2), api.Key{1}, api.Key{2})
	p, q := ladder.NewPair(steps(1)), ladder.NewPair(steps(2))
	m := sha.New(true)
	var all sync.WaitGroup
	for range 16 {
		all.Go(func() {
			for range 5 {
				if k, e := kem.Take(m, p, q, eph, api.Key{1}, api.Key{2}); k != key || e != api.OK {
					t.Errorf("%x %v, want %x", k, e, key)
				}
			}
		})
	}
	all.Wait()
	if m.Count() != 16*5*digestsOfKey {
		t.Errorf("%d digests", m.Count())
	}
}
