package vault_test

import (
	"bytes"
	"crypto/sha256"
	"encoding/binary"
	"encoding/hex"
	"math"
	"math/rand"
	"slices"
	"testing"

	"cablegram/api"
	"cablegram/device"
	"cablegram/sha"
	"cablegram/vault"
)

// noise is of the same bytes each time.
func noise(seed int64, n int) []byte {
	b := make([]byte, n)
	rand.New(rand.NewSource(seed)).Read(b)
	return b
}

func made(t *testing.T, n int) *device.Device {
	t.Helper()
	d, e := device.New(n)
	if e != api.OK {
		t.Fatal(n, e)
	}
	return d
}

// image is all that stands on a device.
func image(t *testing.T, d *device.Device) []byte {
	t.Helper()
	var out []byte
	for i := range d.Len() {
		b, e := d.Read(i)
		if e != api.OK {
			t.Fatal(i, e)
		}
		out = append(out, b...)
	}
	return out
}

// write writes bytes into sectors, from one of them on, and makes sure of them.
func write(t *testing.T, d *device.Device, at int, b []byte) {
	t.Helper()
	for piece := range slices.Chunk(b, 256) {
		if e := d.Write(at, piece); e != api.OK {
			t.Fatal(at, e)
		}
		at++
	}
	if e := d.Sync(); e != api.OK {
		t.Fatal(e)
	}
}

// plainHead is a head by the words, of whatever numbers: what is digested need
// not be what the head tells.
func plainHead(seq, size uint64, b []byte) []byte {
	h := binary.BigEndian.AppendUint64(nil, seq)
	h = binary.BigEndian.AppendUint64(h, size)
	sum := sha256.Sum256(append(slices.Clone(h), b...))
	return append(append(h, 0, 1), sum[:]...)
}

// plainSlot is a slot's bytes, with a state that counts.
func plainSlot(seq uint64, b []byte, n int) []byte {
	out := make([]byte, 256*(n+1))
	copy(out, plainHead(seq, uint64(len(b)), b))
	copy(out[256:], b)
	return out
}

func loads(t *testing.T, what any, d *device.Device, at, n int, b []byte, seq uint64, e api.Errno) {
	t.Helper()
	gotB, gotSeq, gotE := vault.Load(nil, d, at, n)
	if !bytes.Equal(gotB, b) || gotSeq != seq || gotE != e {
		t.Errorf("%v: Load %d bytes, %d, %v, want %d, %d, %v", what, len(gotB), gotSeq, gotE, len(b), seq, e)
	}
}

func recovers(t *testing.T, what any, d *device.Device, at, n int, b []byte, seq uint64, e api.Errno) {
	t.Helper()
	gotB, gotSeq, gotE := vault.Recover(nil, d, at, n)
	if !bytes.Equal(gotB, b) || gotSeq != seq || gotE != e {
		t.Errorf("%v: Recover %d bytes, %d, %v, want %d, %d, %v", what, len(gotB), gotSeq, gotE, len(b), seq, e)
	}
}

func stale(t *testing.T, what any, d *device.Device, at, n int, clean bool, e api.Errno) {
	t.Helper()
	if got, gotE := vault.Stale(d, at, n); got != clean || gotE != e {
		t.Errorf("%v: Stale %v %v, want %v %v", what, got, gotE, clean, e)
	}
}

func saves(t *testing.T, what any, d *device.Device, at, n int, b []byte, want api.Errno) {
	t.Helper()
	if e := vault.Save(nil, d, at, n, b); e != want {
		t.Errorf("%v: Save %v, want %v", what, e, want)
	}
}

// TestExamples are the chapter's.
func TestExamples(t *testing.T) {
	d := made(t, 6)
	loads(t, "empty", d, 0, 2, nil, 0, api.ErrNone)
	if got := vault.Room(2); got != 512 {
		t.Error(got)
	}
	one, two, three := noise(1, 300), noise(2, 400), noise(3, 500)
	saves(t, "one", d, 0, 2, one, api.OK)
	loads(t, "one", d, 0, 2, one, 1, api.OK)
	stale(t, "one", d, 0, 2, true, api.OK)
	saves(t, "two", d, 0, 2, two, api.OK)
	d.Fuse(3)
	saves(t, "three", d, 0, 2, three, api.ErrDown)
	d.Crash(nil)
	recovers(t, "three", d, 0, 2, two, 2, api.OK)
	stale(t, "three", d, 0, 2, true, api.OK)
}

// L1

func TestRoom(t *testing.T) {
	for n := -300; n <= 500; n++ {
		want := 0
		if n >= 1 && n <= 200 {
			want = 256 * n
		}
		if got := vault.Room(n); got != want {
			t.Errorf("%d: %d", n, got)
		}
	}
	for _, n := range []int{math.MinInt, math.MinInt + 1, math.MinInt32, 1 << 32, 1<<32 + 1, 1<<56 + 1, math.MaxInt} {
		if got := vault.Room(n); got != 0 {
			t.Errorf("%d: %d", n, got)
		}
	}
}

// TestNoSuchVault: ErrArg stands ahead of ErrSector, for all four calls, and
// ahead of all else.
func TestNoSuchVault(t *testing.T) {
	whole := made(t, 20)
	write(t, whole, 0, noise(1, 20*256))
	type place struct {
		d     *device.Device
		at, n int
		e     api.Errno
	}
	var l []place
	for _, n := range []int{0, -1, 201, 202, math.MinInt, math.MaxInt, 1<<63 - 2, -1 << 62, 1<<56 + 1} {
		l = append(l, place{whole, 0, n, api.ErrArg}, place{whole, -1, n, api.ErrArg}, place{whole, 30, n, api.ErrArg}, place{nil, 0, n, api.ErrArg})
	}
	for _, at := range []int{-1, 15, 16, 19, 20, 21, -4, -20, math.MinInt, math.MaxInt, math.MaxInt - 3, math.MaxInt - 6, math.MinInt + 20} {
		l = append(l, place{whole, at, 2, api.ErrSector}, place{nil, at, 2, api.ErrSector})
	}
	l = append(l, place{whole, 0, 10, api.ErrSector}, place{whole, 1, 9, api.ErrSector}, place{whole, 0, 200, api.ErrSector},
		place{nil, 0, 1, api.ErrSector}, place{&device.Device{}, 0, 1, api.ErrSector}, place{made(t, 401), 0, 200, api.ErrSector}, place{made(t, 402), 1, 200, api.ErrSector})
	before := image(t, whole)
	for i, x := range l {
		loads(t, i, x.d, x.at, x.n, nil, 0, x.e)
		recovers(t, i, x.d, x.at, x.n, nil, 0, x.e)
		stale(t, i, x.d, x.at, x.n, false, x.e)
		for _, size := range []int{0, 1, 2561, 60000} {
			saves(t, i, x.d, x.at, x.n, make([]byte, size), x.e)
		}
	}
	if !bytes.Equal(image(t, whole), before) || whole.Pending() != 0 {
		t.Error("the device is changed")
	}
}

// TestWherever: a vault may end where the device ends, and begin anywhere.
func TestWherever(t *testing.T) {
	for _, x := range []struct{ all, at, n int }{{4, 0, 1}, {5, 1, 1}, {6, 1, 1}, {402, 0, 200}, {600, 198, 200}, {600, 100, 200}, {20, 0, 9}, {20, 14, 2}} {
		d := made(t, x.all)
		write(t, d, 0, bytes.Repeat([]byte{7}, 256*x.all))
		loads(t, x, d, x.at, x.n, nil, 0, api.ErrNone)
		stale(t, x, d, x.at, x.n, false, api.OK)
		for i := range 5 {
			b := noise(int64(i), 256*x.n-i)
			saves(t, x, d, x.at, x.n, b, api.OK)
			loads(t, x, d, x.at, x.n, b, uint64(i+1), api.OK)
			stale(t, x, d, x.at, x.n, true, api.OK)
			want := bytes.Repeat([]byte{7}, 256*x.all)
			size := 256 * (x.n + 1)
			clear(want[256*x.at : 256*x.at+2*size])
			copy(want[256*x.at+i%2*size:], plainSlot(uint64(i+1), b, x.n))
			if !bytes.Equal(image(t, d), want) || d.Pending() != 0 {
				t.Fatalf("%v: Save %d left other bytes", x, i)
			}
		}
	}
}

// TestNewest: of those that count, the greater number's; the first one's, if alike.
func TestNewest(t *testing.T) {
	a, b := noise(1, 300), noise(2, 301)
	numbers := []uint64{0, 1, 2, 3, 255, 256, 1 << 31, 1 << 32, 1<<63 - 1, 1 << 63, 1<<64 - 2, 1<<64 - 1}
	for _, x := range numbers {
		for _, y := range numbers {
			d := made(t, 8)
			write(t, d, 1, plainSlot(x, a, 2))
			write(t, d, 4, plainSlot(y, b, 2))
			switch {
			case x == 0 && y == 0:
				loads(t, []uint64{x, y}, d, 1, 2, nil, 0, api.ErrNone)
			case x >= y:
				loads(t, []uint64{x, y}, d, 1, 2, a, x, api.OK)
			default:
				loads(t, []uint64{x, y}, d, 1, 2, b, y, api.OK)
			}
		}
	}
}

// TestCounts: with one bit turned anywhere in the head, or in the state, a slot
// does not count; what stands behind the state does not matter.
func TestCounts(t *testing.T) {
	for _, size := range []int{0, 1, 255, 256, 257, 511, 512} {
		b := noise(int64(size), size)
		for _, first := range []bool{true, false} {
			slot, at := plainSlot(5, b, 2), 0
			if !first {
				at = 3
			}
			for i := range slot {
				d := made(t, 6)
				turned := slices.Clone(slot)
				turned[i] ^= 1 << (i % 8)
				write(t, d, at, turned)
				if i < 256+size {
					loads(t, i, d, 0, 2, nil, 0, api.ErrNone)
				} else {
					loads(t, i, d, 0, 2, b, 5, api.OK)
				}
			}
		}
	}
}

// TestWrongHeads: each is right but for one thing.
func TestWrongHeads(t *testing.T) {
	room := noise(1, 512)
	two := append(plainHead(3, 512, room), plainHead(3, 512, room)[18:]...)
	two[17] = 2
	none := append(plainHead(3, 512, room)[:16], 0, 0)
	raw := slices.Delete(plainHead(3, 512, room), 16, 18)
	tail := append(plainHead(3, 512, room), 1)
	last := append(plainHead(3, 512, room), make([]byte, 206)...)
	last[255] = 128
	for name, head := range map[string][]byte{
		"number 0":                 plainHead(0, 512, room),
		"more than room":           plainHead(3, 513, append(slices.Clone(room), 0)),
		"more, its bytes' digest":  plainHead(3, 513, room),
		"as many as both slots":    plainHead(3, 1024, append(slices.Clone(room), make([]byte, 512)...)),
		"2^63":                     plainHead(3, 1<<63, room),
		"2^64 - 1":                 plainHead(3, 1<<64-1, room),
		"2^32 and more":            plainHead(3, 1<<32+512, room),
		"2^56":                     plainHead(3, 1<<56, nil),
		"a byte less":              plainHead(3, 511, room),
		"the state's digest":       append(plainHead(3, 512, nil)[:18], sum(room)...),
		"the numbers' digest":      plainHead(3, 512, nil),
		"the other way round":      append(plainHead(3, 512, nil)[:18], sum(room, plainHead(3, 512, nil)[:16])...),
		"two keys":                 two,
		"no key":                   none,
		"a key, not how many":      raw,
		"a byte behind":            tail,
		"a bit behind, at the end": last,
	} {
		d := made(t, 6)
		write(t, d, 0, head)
		write(t, d, 1, room)
		loads(t, name, d, 0, 2, nil, 0, api.ErrNone)
		recovers(t, name, d, 0, 2, nil, 0, api.ErrNone)
		write(t, d, 3, plainSlot(2, room[:100], 2))
		loads(t, name, d, 0, 2, room[:100], 2, api.OK)
	}
	d := made(t, 6)
	write(t, d, 0, plainHead(3, 512, room))
	write(t, d, 1, room)
	loads(t, "right", d, 0, 2, room, 3, api.OK)
}

func sum(l ...[]byte) []byte {
	k := sha256.Sum256(slices.Concat(l...))
	return k[:]
}

// TestLoadReadsAlone: it writes nothing, so that a fuse is not spent, and one
// that is down is read.
func TestLoadReadsAlone(t *testing.T) {
	d := made(t, 6)
	b := noise(1, 77)
	write(t, d, 3, plainSlot(9, b, 2))
	write(t, d, 0, noise(2, 700))
	before := image(t, d)
	d.Fuse(0)
	for range 3 {
		loads(t, "fuse", d, 0, 2, b, 9, api.OK)
		stale(t, "fuse", d, 0, 2, false, api.OK)
	}
	if d.Down() || !bytes.Equal(image(t, d), before) {
		t.Error("it is written to")
	}
	if e := d.Sync(); e != api.ErrDown {
		t.Fatal(e)
	}
	loads(t, "down", d, 0, 2, b, 9, api.OK)
	stale(t, "down", d, 0, 2, false, api.OK)
}

// TestLoadIsNew: whoever changes a state changes none that is kept.
func TestLoadIsNew(t *testing.T) {
	d := made(t, 6)
	b := noise(1, 300)
	saves(t, "", d, 0, 2, b, api.OK)
	for _, load := range []func(m *sha.Meter, d *device.Device, at, n int) ([]byte, uint64, api.Errno){vault.Load, vault.Recover} {
		got, _, _ := load(nil, d, 0, 2)
		clear(got)
		loads(t, "spoilt", d, 0, 2, b, 1, api.OK)
	}
}

// L2

// step is a write, or a sync, as L2 lists them.
type step struct {
	sync bool
	at   int
	b    []byte
}

// plainSave are the steps of a Save into one slot, which wipes the other one.
func plainSave(at, n int, first bool, seq uint64, b []byte) []step {
	to, from := at, at+n+1
	if !first {
		to, from = from, to
	}
	var out []step
	for i := 0; 256*i < len(b); i++ {
		out = append(out, step{at: to + 1 + i, b: b[256*i : min(len(b), 256*i+256)]})
	}
	out = append(out, step{sync: true}, step{at: to, b: plainHead(seq, uint64(len(b)), b)}, step{sync: true})
	for i := range n + 1 {
		out = append(out, step{at: from + i})
	}
	return append(out, step{sync: true})
}

// TestSteps lets the device go down behind each step, and asks what is there
// then, and what is sure; a Save that is whole takes no step more.
func TestSteps(t *testing.T) {
	const at, n = 1, 3
	for _, x := range []struct {
		seq   uint64 // of the slot that counts; 0, if none does
		first bool   // it is the first one
		size  int
	}{{0, false, 300}, {0, false, 0}, {1, true, 700}, {1, true, 0}, {7, false, 768}, {8, true, 256}, {9, false, 257}, {1<<64 - 2, true, 1}, {1<<64 - 2, false, 512}} {
		d := made(t, 2*n+4)
		write(t, d, 0, noise(1, 256*d.Len()))
		if x.first {
			write(t, d, at, plainSlot(x.seq, noise(2, 333), n))
		} else if x.seq > 0 {
			write(t, d, at+n+1, plainSlot(x.seq, noise(2, 333), n))
		}
		b := noise(3, x.size)
		l := plainSave(at, n, !x.first, x.seq+1, b)
		for fuse := range len(l) + 1 {
			got, want := d.Copy(), d.Copy()
			got.Fuse(fuse)
			for _, s := range l[:fuse] {
				if s.sync {
					want.Sync()
				} else {
					want.Write(s.at, s.b)
				}
			}
			e := api.ErrDown
			if fuse == len(l) {
				e = api.OK
			}
			saves(t, fuse, got, at, n, b, e)
			if got.Down() != (fuse < len(l)) || got.Pending() != want.Pending() || !bytes.Equal(image(t, got), image(t, want)) {
				t.Errorf("%v: behind %d steps others were done", x, fuse)
			}
			got.Crash(nil)
			want.Crash(nil)
			if !bytes.Equal(image(t, got), image(t, want)) {
				t.Errorf("%v: behind %d steps other ones are sure", x, fuse)
			}
		}
	}
}

// TestOneByOne: many states, of any size, in a vault beside another one.
func TestOneByOne(t *testing.T) {
	r := rand.New(rand.NewSource(4))
	d := made(t, 30)
	places := []struct{ at, n int }{{0, 3}, {8, 1}, {12, 5}, {24, 2}}
	var kept [4][]byte
	var count [4]uint64
	for i := range 400 {
		k := r.Intn(4)
		kept[k] = noise(int64(i), []int{0, r.Intn(257), 256, r.Intn(256*places[k].n + 1), 256 * places[k].n}[r.Intn(5)])
		count[k]++
		saves(t, i, d, places[k].at, places[k].n, kept[k], api.OK)
		for j, p := range places {
			if count[j] == 0 {
				loads(t, i, d, p.at, p.n, nil, 0, api.ErrNone)
				continue
			}
			loads(t, i, d, p.at, p.n, kept[j], count[j], api.OK)
			stale(t, i, d, p.at, p.n, true, api.OK)
		}
	}
}

// TestBytes: a device's digest, as another program made it.
func TestBytes(t *testing.T) {
	d := made(t, 10)
	for i := range 3 {
		var b []byte
		for j := range 400 + i {
			b = append(b, byte(j*7+i))
		}
		saves(t, i, d, 1, 3, b, api.OK)
	}
	if got := hex.EncodeToString(sum(image(t, d))); got != "caa8bea6fce8b407b2c1740a0963b06f8d84e2b1324c7ce361d29bb6d881799d" {
		t.Error(got)
	}
}

// TestSaveRefuses: in this order, and nothing is done.
func TestSaveRefuses(t *testing.T) {
	d := made(t, 6)
	write(t, d, 0, plainSlot(1<<64-1, noise(1, 512), 2))
	write(t, d, 3, plainSlot(1<<64-2, noise(2, 512), 2))
	before := image(t, d)
	d.Fuse(0)
	for size := range 600 {
		want := api.ErrFull
		if size > 512 {
			want = api.ErrLong
		}
		saves(t, size, d, 0, 2, make([]byte, size), want)
	}
	saves(t, "long, no place", d, 1, 2, make([]byte, 513), api.ErrSector)
	saves(t, "long, no place, no room", d, 1, 0, make([]byte, 513), api.ErrArg)
	if d.Down() || !bytes.Equal(image(t, d), before) {
		t.Error("something is done")
	}
	for _, n := range []int{1, 2, 200} {
		d := made(t, 2*n+2)
		for _, more := range []int{1, 2, 256, 70000} {
			saves(t, n, d, 0, n, make([]byte, 256*n+more), api.ErrLong)
		}
		if d.Pending() != 0 {
			t.Error(n, d.Pending())
		}
	}
}

// TestFull: it is the number that Load tells, not another slot's.
func TestFull(t *testing.T) {
	d := made(t, 6)
	spoilt := plainSlot(1<<64-1, noise(1, 512), 2)
	spoilt[600] ^= 1
	write(t, d, 0, spoilt)
	write(t, d, 3, plainSlot(1<<64-2, noise(2, 512), 2))
	saves(t, "last", d, 0, 2, []byte("last"), api.OK)
	loads(t, "last", d, 0, 2, []byte("last"), 1<<64-1, api.OK)
	saves(t, "none", d, 0, 2, []byte("none"), api.ErrFull)
	loads(t, "none", d, 0, 2, []byte("last"), 1<<64-1, api.OK)
}

// TestOneDigestEach: a Meter sees what is digested: the numbers, and the state.
func TestOneDigestEach(t *testing.T) {
	d, m := made(t, 6), sha.New(true)
	b := noise(1, 300)
	if e := vault.Save(m, d, 0, 2, b); e != api.OK {
		t.Fatal(e)
	}
	want := append(plainHead(1, 300, b)[:16], b...)
	if !slices.ContainsFunc(m.Inputs(), func(x []byte) bool { return bytes.Equal(x, want) }) {
		t.Error("Save's digest is not the Meter's")
	}
	for i, load := range []func(m *sha.Meter, d *device.Device, at, n int) ([]byte, uint64, api.Errno){vault.Load, vault.Recover} {
		m := sha.New(true)
		got, seq, e := load(m, d, 0, 2)
		if !bytes.Equal(got, b) || seq != 1 || e != api.OK {
			t.Error(i, got, seq, e)
		}
		if l := m.Inputs(); len(l) != 1 || !bytes.Equal(l[0], want) {
			t.Errorf("%d: %d digests", i, len(l))
		}
	}
}

// TestNothingKept: what is handed in is neither changed nor kept, and none is none.
func TestNothingKept(t *testing.T) {
	d := made(t, 6)
	b := noise(1, 300)
	saves(t, "", d, 0, 2, b, api.OK)
	if !bytes.Equal(b, noise(1, 300)) {
		t.Error("it is changed")
	}
	clear(b)
	loads(t, "", d, 0, 2, noise(1, 300), 1, api.OK)
	for i, b := range [][]byte{nil, {}} {
		saves(t, i, d, 0, 2, b, api.OK)
		loads(t, i, d, 0, 2, nil, uint64(i+2), api.OK)
		recovers(t, i, d, 0, 2, nil, uint64(i+2), api.OK)
	}
}

// L3

// TestRecoverWipes: one byte anywhere in the other slot is enough.
func TestRecoverWipes(t *testing.T) {
	b := noise(1, 300)
	for _, first := range []bool{true, false} {
		for i := range 256 * 3 {
			d := made(t, 8)
			write(t, d, 0, bytes.Repeat([]byte{7}, 256*8))
			junk := make([]byte, 256*3)
			junk[i] = 1 << (i % 8)
			slots := [][]byte{plainSlot(4, b, 2), junk}
			if !first {
				slices.Reverse(slots)
			}
			write(t, d, 1, slices.Concat(slots...))
			stale(t, i, d, 1, 2, false, api.OK)
			c := d.Copy()
			recovers(t, i, d, 1, 2, b, 4, api.OK)
			stale(t, i, d, 1, 2, true, api.OK)
			want := bytes.Repeat([]byte{7}, 256*8)
			clear(want[256 : 256*7])
			copy(want[256+map[bool]int{true: 0, false: 768}[first]:], plainSlot(4, b, 2))
			if !bytes.Equal(image(t, d), want) || d.Pending() != 0 {
				t.Errorf("%d: other bytes are left", i)
			}
			c.Fuse(3)
			recovers(t, i, c, 1, 2, nil, 0, api.ErrDown)
			if c.Pending() != 3 {
				t.Errorf("%d: %d writes", i, c.Pending())
			}
			c.Crash(nil)
			c.Fuse(4)
			recovers(t, i, c, 1, 2, b, 4, api.OK)
		}
	}
}

// TestRecoverHeadFirst: of another state that counts nothing is left that does,
// wherever the device goes down.
func TestRecoverHeadFirst(t *testing.T) {
	d := made(t, 8)
	old, b := noise(1, 700), noise(2, 600)
	write(t, d, 0, plainSlot(4, old, 3))
	write(t, d, 4, plainSlot(5, b, 3))
	for fuse := range 5 {
		c := d.Copy()
		c.Fuse(fuse)
		recovers(t, fuse, c, 0, 3, nil, 0, api.ErrDown)
		want := append(plainSlot(4, old, 3), plainSlot(5, b, 3)...)
		clear(want[:256*min(fuse, 4)])
		if !bytes.Equal(image(t, c), want) {
			t.Errorf("%d: other sectors are written", fuse)
		}
		c.Crash(nil)
		if !bytes.Equal(image(t, c), image(t, d)) {
			t.Errorf("%d: it is synced", fuse)
		}
	}
}

// TestRecoverLeaves: the device is not touched, where there is nothing to do.
func TestRecoverLeaves(t *testing.T) {
	b := noise(1, 300)
	clean := made(t, 6)
	write(t, clean, 3, plainSlot(4, b, 2))
	clean.Fuse(0)
	recovers(t, "clean", clean, 0, 2, b, 4, api.OK)
	if clean.Down() {
		t.Error("clean: it is touched")
	}
	for i, junk := range [][]byte{noise(1, 6*256), make([]byte, 6*256), append(make([]byte, 3*256), plainSlot(0, b, 2)...)} {
		d := made(t, 6)
		write(t, d, 0, junk)
		d.Fuse(0)
		recovers(t, i, d, 0, 2, nil, 0, api.ErrNone)
		if d.Down() || !bytes.Equal(image(t, d), junk) {
			t.Errorf("%d: it is touched", i)
		}
	}
}

// TestStale: one slot is enough, one byte too much.
func TestStale(t *testing.T) {
	for i := range 256 * 6 {
		for _, j := range []int{0, 1, 255, 256, 767, 768, 1023, 1024, 1535} {
			d := made(t, 8)
			all := bytes.Repeat([]byte{7}, 256*8)
			clear(all[256 : 256*7])
			all[256+i], all[256+j] = 1, 1
			write(t, d, 0, all)
			stale(t, []int{i, j}, d, 1, 2, i/768 == j/768, api.OK)
		}
	}
	d := made(t, 6)
	stale(t, "empty", d, 0, 2, true, api.OK)
	write(t, d, 0, plainSlot(1, nil, 2))
	stale(t, "one", d, 0, 2, true, api.OK)
	write(t, d, 3, plainSlot(2, nil, 2))
	stale(t, "both", d, 0, 2, false, api.OK)
}

// L4

// TestAnywhere lets the device go down anywhere amid a Save, keeps any of the
// pending writes, and may go down once more amid the Recover.
func TestAnywhere(t *testing.T) {
	r := rand.New(rand.NewSource(5))
	const n = 3
	for _, count := range []int{0, 1, 2, 5} {
		d := made(t, 2*n+2)
		var old []byte
		for i := range count {
			old = noise(int64(i+1), r.Intn(769))
			saves(t, i, d, 0, n, old, api.OK)
		}
		next := noise(99, 600)
		for round := range 1500 {
			c := d.Copy()
			c.Fuse(round % 14)
			done := vault.Save(nil, c, 0, n, next)
			c.Crash(keeps(r))
			for range r.Intn(3) {
				c.Fuse(r.Intn(6))
				vault.Recover(nil, c, 0, n)
				c.Crash(keeps(r))
			}
			b, seq, e := vault.Recover(nil, c, 0, n)
			isOld := bytes.Equal(b, old) && seq == uint64(count) && (e == api.OK) == (count > 0)
			isNew := bytes.Equal(b, next) && seq == uint64(count+1) && e == api.OK
			if !isOld && !isNew || done == api.OK && !isNew || e != api.OK && e != api.ErrNone {
				t.Fatalf("%d: %d bytes, %d, %v", round, len(b), seq, e)
			}
			if e == api.OK {
				stale(t, round, c, 0, n, true, api.OK)
			}
			if isNew && bytes.Contains(image(t, c), pieceOf(old)) || isOld && count > 0 && bytes.Contains(image(t, c), next[:32]) {
				t.Fatalf("%d: something of the other one is left", round)
			}
			saves(t, round, c, 0, n, []byte("on"), api.OK)
			loads(t, round, c, 0, n, []byte("on"), seq+1, api.OK)
		}
	}
}

func keeps(r *rand.Rand) []bool {
	var out []bool
	for range r.Intn(9) {
		out = append(out, r.Intn(2) == 0)
	}
	return out
}

// pieceOf is what is looked for; of too few bytes something that is nowhere.
func pieceOf(b []byte) []byte {
	if len(b) < 32 {
		return noise(123, 32)
	}
	return b[:32]
}
