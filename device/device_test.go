package device_test

import (
	"bytes"
	"math"
	"math/rand"
	"slices"
	"testing"

	"cablegram/api"
	"cablegram/device"
)

// noise is of the same bytes each time.
func noise(seed int64, n int) []byte {
	b := make([]byte, n)
	rand.New(rand.NewSource(seed)).Read(b)
	return b
}

func made(t *testing.T, n int) *device.Device {
	t.Helper()
	d, e := device.New(n)
	if d == nil || e != api.OK {
		t.Fatal(n, e)
	}
	return d
}

// padded is K2's sector: what was written, and bytes 0 behind.
func padded(b []byte) []byte { return append(slices.Clone(b), make([]byte, 256-len(b))...) }

// holds asks that the sectors are these, one behind the other, each with bytes 0 behind.
func holds(t *testing.T, what any, d *device.Device, want ...string) {
	t.Helper()
	for i, s := range want {
		if b, e := d.Read(i); !bytes.Equal(b, padded([]byte(s))) || e != api.OK {
			t.Errorf("%v: sector %d is %q %v, want %q", what, i, b, e, s)
		}
	}
}

// told asks for the errors of calls that were done one behind the other.
func told(t *testing.T, what any, got []api.Errno, want ...api.Errno) {
	t.Helper()
	if !slices.Equal(got, want) {
		t.Errorf("%v: %v, want %v", what, got, want)
	}
}

// wrongSectors are those that a device of n does not have.
func wrongSectors(n int) []int {
	return []int{n, n + 1, 600, 601, -1, -2, -n, math.MaxInt32, math.MaxInt, math.MinInt, math.MaxInt - 1, math.MinInt + 1}
}

// K1

func TestNew(t *testing.T) {
	for n := -3; n <= 603; n++ {
		d, e := device.New(n)
		if n < 1 || n > 600 {
			if d != nil || e != api.ErrArg {
				t.Errorf("%d: %v %v", n, d, e)
			}
			continue
		}
		if e != api.OK || d.Len() != n || d.Pending() != 0 || d.Down() {
			t.Fatalf("%d: %d sectors, %d pending, %v", n, d.Len(), d.Pending(), e)
		}
		holds(t, n, d, make([]string, n)...)
	}
	for _, n := range []int{math.MinInt, math.MinInt32, -600, 1 << 16, 1<<32 + 1, math.MaxInt} {
		if d, e := device.New(n); d != nil || e != api.ErrArg {
			t.Errorf("%d: %v %v", n, d, e)
		}
	}
}

// TestNewHasNoFuse: and no two share their sectors.
func TestNewHasNoFuse(t *testing.T) {
	d, other := made(t, 1), made(t, 1)
	for i := range 2000 {
		if e := d.Write(0, []byte{byte(i), 1}); e != api.OK {
			t.Fatal(i, e)
		}
		if i%100 == 99 {
			told(t, i, []api.Errno{d.Sync()}, api.OK)
		}
	}
	holds(t, "other", other, "")
	if other.Pending() != 0 || d.Down() {
		t.Error(other.Pending(), d.Down())
	}
}

// K2

func TestWriteAndRead(t *testing.T) {
	for _, n := range []int{1, 2, 7, 599, 600} {
		d := made(t, n)
		for i := range n {
			b := noise(int64(i), 256-i%3)
			if e := d.Write(i, b); e != api.OK || d.Pending() != i+1 {
				t.Fatalf("%d of %d: %v, %d pending", i, n, e, d.Pending())
			}
		}
		for i := range n {
			if b, e := d.Read(i); !bytes.Equal(b, padded(noise(int64(i), 256-i%3))) || e != api.OK {
				t.Errorf("%d of %d: %x %v", i, n, b, e)
			}
		}
	}
}

// TestEachSize: behind what is written stand bytes 0, whatever stood there; its neighbours stay.
func TestEachSize(t *testing.T) {
	d := made(t, 3)
	full := noise(1, 256)
	for n := range 257 {
		b := noise(int64(n), n)
		e := []api.Errno{d.Write(0, full), d.Write(1, full), d.Write(2, full), d.Write(1, b)}
		told(t, n, e, api.OK, api.OK, api.OK, api.OK)
		holds(t, n, d, string(full), string(b), string(full))
		if d.Pending() != 4*(n+1) {
			t.Errorf("%d: %d pending", n, d.Pending())
		}
	}
}

// TestEachWriteIsPending: also one of no bytes, and one of what the sector is already.
func TestEachWriteIsPending(t *testing.T) {
	d := made(t, 2)
	for i, b := range [][]byte{nil, {}, {0}, make([]byte, 256), {1}, {1}, {1, 0}, nil} {
		if e := d.Write(i%2, b); e != api.OK || d.Pending() != i+1 {
			t.Errorf("%d: %v, %d pending", i, e, d.Pending())
		}
	}
	holds(t, "all", d, "\x01", "")
}

func TestNoSuchSector(t *testing.T) {
	for _, n := range []int{1, 2, 599} {
		d := made(t, n)
		told(t, n, []api.Errno{d.Write(0, []byte("a")), d.Write(n-1, []byte("a"))}, api.OK, api.OK)
		for _, i := range wrongSectors(n) {
			told(t, i, []api.Errno{d.Write(i, nil), d.Write(i, []byte("b")), d.Write(i, make([]byte, 257))}, api.ErrSector, api.ErrSector, api.ErrSector)
			if b, e := d.Read(i); len(b) != 0 || e != api.ErrSector {
				t.Errorf("%d: %x %v", i, b, e)
			}
		}
		holds(t, n, d, "a")
		if d.Pending() != 2 || d.Down() {
			t.Errorf("%d: %d pending", n, d.Pending())
		}
	}
}

func TestTooManyBytes(t *testing.T) {
	d := made(t, 1)
	told(t, "first", []api.Errno{d.Write(0, []byte("a"))}, api.OK)
	for _, n := range []int{257, 258, 511, 512, 513, 65536} {
		if e := d.Write(0, noise(1, n)); e != api.ErrLong || d.Pending() != 1 {
			t.Errorf("%d: %v, %d pending", n, e, d.Pending())
		}
		if e := d.Write(0, make([]byte, n)); e != api.ErrLong {
			t.Errorf("%d of 0: %v", n, e)
		}
	}
	holds(t, "then", d, "a")
}

// TestFirstErrorIsTold: R2: no sector ahead of too many bytes, and both ahead of a device that is down, or would go down.
func TestFirstErrorIsTold(t *testing.T) {
	d := made(t, 1)
	d.Fuse(0)
	for _, down := range []bool{false, true} {
		told(t, down, []api.Errno{d.Write(1, make([]byte, 257)), d.Write(-1, nil), d.Write(0, make([]byte, 257))}, api.ErrSector, api.ErrSector, api.ErrLong)
		if d.Down() != down {
			t.Errorf("%v: %v", down, d.Down())
		}
		told(t, down, []api.Errno{d.Write(0, nil)}, api.ErrDown)
	}
	if b, e := d.Read(1); len(b) != 0 || e != api.ErrSector {
		t.Errorf("%x %v", b, e)
	}
}

func TestSync(t *testing.T) {
	d := made(t, 2)
	told(t, "of nothing", []api.Errno{d.Sync(), d.Sync()}, api.OK, api.OK)
	told(t, "of two", []api.Errno{d.Write(0, []byte("a")), d.Write(0, []byte("b")), d.Sync()}, api.OK, api.OK, api.OK)
	if d.Pending() != 0 {
		t.Error(d.Pending())
	}
	holds(t, "synced", d, "b", "")
	told(t, "one more", []api.Errno{d.Write(1, []byte("c"))}, api.OK)
	if d.Pending() != 1 {
		t.Error(d.Pending())
	}
	holds(t, "then", d, "b", "c")
}

// TestReadOfOneThatIsDown: as they were written last, be that pending or sure.
func TestReadOfOneThatIsDown(t *testing.T) {
	d := made(t, 3)
	told(t, "ahead", []api.Errno{d.Write(0, []byte("a")), d.Sync(), d.Write(1, []byte("b"))}, api.OK, api.OK, api.OK)
	d.Fuse(0)
	told(t, "down", []api.Errno{d.Sync(), d.Write(2, []byte("c")), d.Write(0, []byte("d"))}, api.ErrDown, api.ErrDown, api.ErrDown)
	holds(t, "down", d, "a", "b", "")
	if d.Pending() != 1 || d.Len() != 3 || !d.Down() {
		t.Error(d.Pending(), d.Len(), d.Down())
	}
}

// K3

// TestCrash: of all choices of five writes, of which some are to one sector; a keep that is too short keeps no more, and one that is too long no less.
func TestCrash(t *testing.T) {
	writes := []struct {
		at int
		to string
	}{{0, "p"}, {1, "q"}, {0, "rr"}, {2, ""}, {0, "s"}}
	for choice := range 32 {
		for n := range 8 {
			keep := make([]bool, n)
			want := []string{"abc", "def", "ghi", "jkl"}
			d := made(t, 4)
			for i, s := range want {
				told(t, i, []api.Errno{d.Write(i, []byte(s))}, api.OK)
			}
			told(t, "ahead", []api.Errno{d.Sync()}, api.OK)
			for k, w := range writes {
				told(t, k, []api.Errno{d.Write(w.at, []byte(w.to))}, api.OK)
				if k < n && choice>>k&1 == 1 {
					keep[k], want[w.at] = true, w.to
				}
			}
			for k := len(writes); k < n; k++ {
				keep[k] = true
			}
			d.Crash(keep)
			holds(t, keep, d, want...)
			d.Crash([]bool{true, true, true, true, true})
			holds(t, "once more", d, want...)
			if d.Pending() != 0 || d.Down() {
				t.Errorf("%v: %d pending", keep, d.Pending())
			}
		}
	}
}

// TestCrashOfNothing: what was never synced is bytes 0 again.
func TestCrashOfNothing(t *testing.T) {
	for _, keep := range [][]bool{nil, {}, {false}, {false, false, false}} {
		d := made(t, 2)
		told(t, keep, []api.Errno{d.Write(0, []byte("ab")), d.Write(1, noise(1, 256))}, api.OK, api.OK)
		d.Crash(keep)
		holds(t, keep, d, "", "")
		if d.Pending() != 0 {
			t.Error(d.Pending())
		}
	}
}

// TestWritesAreCountedFromTheLastSyncOrCrash: keep's first one is the first that is pending.
func TestWritesAreCountedFromTheLastSyncOrCrash(t *testing.T) {
	d := made(t, 3)
	told(t, "ahead", []api.Errno{d.Write(0, []byte("a")), d.Sync(), d.Write(1, []byte("b")), d.Write(2, []byte("c"))}, api.OK, api.OK, api.OK, api.OK)
	d.Crash([]bool{true})
	holds(t, "behind a Sync", d, "a", "b", "")
	told(t, "then", []api.Errno{d.Write(2, []byte("d")), d.Write(1, []byte("e"))}, api.OK, api.OK)
	d.Crash([]bool{false, true})
	holds(t, "behind a Crash", d, "a", "e", "")
}

// TestCrashBringsItBack: it is not down any more, and has no fuse, be that burnt or not.
func TestCrashBringsItBack(t *testing.T) {
	for fuse := range 8 {
		d := made(t, 2)
		d.Fuse(fuse)
		var want []string
		for i := range 5 {
			if e := d.Write(0, []byte{byte(i + 1)}); (e == api.OK) != (i < fuse) {
				t.Errorf("%d, %d: %v", fuse, i, e)
			}
		}
		if d.Down() != (fuse < 5) || d.Pending() != min(fuse, 5) {
			t.Errorf("%d: %v, %d pending", fuse, d.Down(), d.Pending())
		}
		if want = []string{""}; fuse > 0 {
			want = []string{"\x01"}
		}
		d.Crash([]bool{true})
		if d.Down() || d.Pending() != 0 {
			t.Errorf("%d: %v, %d pending", fuse, d.Down(), d.Pending())
		}
		holds(t, fuse, d, want...)
		for i := range 20 {
			told(t, fuse, []api.Errno{d.Write(1, []byte{byte(i)}), d.Sync()}, api.OK, api.OK)
		}
		holds(t, fuse, d, want[0], "\x13")
	}
}

// TestCrashOfOneThatIsDown: what was pending ahead of that may be kept; what was refused is not there to be kept.
func TestCrashOfOneThatIsDown(t *testing.T) {
	d := made(t, 3)
	d.Fuse(2)
	told(t, "all", []api.Errno{d.Write(0, []byte("a")), d.Write(1, []byte("b")), d.Sync(), d.Write(2, []byte("c"))}, api.OK, api.OK, api.ErrDown, api.ErrDown)
	d.Crash([]bool{false, true, true, true})
	holds(t, "then", d, "", "b", "")
}

// K4

// TestFuse: the next n calls are done, be they Writes or Syncs, and no other one behind.
func TestFuse(t *testing.T) {
	for n := range 12 {
		for _, kind := range []int{0, 1, 2, 3} {
			d := made(t, 1)
			d.Fuse(n)
			done := "" // what was written last
			for i := range 20 {
				if d.Down() != (i > n) {
					t.Errorf("%d: down ahead of call %d: %v", n, i, d.Down())
				}
				var e api.Errno
				if (kind>>(i%2))&1 == 1 {
					e = d.Sync()
				} else if e = d.Write(0, []byte{byte(i + 1)}); e == api.OK {
					done = string(byte(i + 1))
				}
				if (e == api.OK) != (i < n) || e != api.OK && e != api.ErrDown {
					t.Errorf("%d: call %d: %v", n, i, e)
				}
			}
			holds(t, n, d, done)
		}
	}
}

// TestNoFuse: one below 0 is none, and takes away one that was there.
func TestNoFuse(t *testing.T) {
	for _, n := range []int{-1, -2, math.MinInt32, math.MinInt} {
		for _, was := range []int{-1, 0, 1, math.MaxInt} {
			d := made(t, 1)
			d.Fuse(was)
			d.Fuse(n)
			for i := range 50 {
				told(t, n, []api.Errno{d.Write(0, []byte{byte(i)}), d.Sync()}, api.OK, api.OK)
			}
			if d.Down() {
				t.Errorf("%d behind %d: it is down", n, was)
			}
		}
	}
}

// TestLongFuse: one that is not spent in this test's time.
func TestLongFuse(t *testing.T) {
	for _, n := range []int{100, math.MaxInt32, math.MaxInt - 1, math.MaxInt} {
		d := made(t, 1)
		d.Fuse(n)
		for range 50 {
			told(t, n, []api.Errno{d.Write(0, nil), d.Sync()}, api.OK, api.OK)
		}
		if e := d.Sync(); (e == api.OK) != (n > 100) {
			t.Errorf("%d: %v", n, e)
		}
	}
}

// TestTheLastFuseHolds: whatever was left of the one ahead.
func TestTheLastFuseHolds(t *testing.T) {
	for _, was := range []int{-1, 0, 1, 2, 5} {
		for n := range 4 {
			d := made(t, 1)
			d.Fuse(was)
			if was > 1 {
				told(t, was, []api.Errno{d.Sync()}, api.OK)
			}
			d.Fuse(n)
			for i := range 6 {
				if e := d.Sync(); (e == api.OK) != (i < n) {
					t.Errorf("%d behind %d: call %d: %v", n, was, i, e)
				}
			}
		}
	}
}

// TestWhatTheFuseDoesNotCount: calls that tell another error, and all but Write and Sync.
func TestWhatTheFuseDoesNotCount(t *testing.T) {
	d := made(t, 2)
	d.Fuse(2)
	others := func() {
		for range 5 {
			told(t, "refused", []api.Errno{d.Write(2, nil), d.Write(-1, []byte("a")), d.Write(0, make([]byte, 257))}, api.ErrSector, api.ErrSector, api.ErrLong)
			d.Read(0)
			d.Read(9)
			d.Len()
			d.Pending()
			d.Copy().Sync()
			if d.Down() {
				t.Error("it is down")
			}
		}
	}
	others()
	told(t, "the first", []api.Errno{d.Write(0, []byte("a"))}, api.OK)
	others()
	told(t, "the second", []api.Errno{d.Sync()}, api.OK)
	others()
	told(t, "the third", []api.Errno{d.Write(1, []byte("b"))}, api.ErrDown)
	holds(t, "all", d, "a", "")
}

// TestDownUntilACrash: no other fuse brings it back, nor stays behind the Crash.
func TestDownUntilACrash(t *testing.T) {
	for _, n := range []int{-1, 0, 1, 100, math.MinInt, math.MaxInt} {
		d := made(t, 1)
		d.Fuse(0)
		told(t, n, []api.Errno{d.Write(0, []byte("a"))}, api.ErrDown)
		d.Fuse(n)
		if !d.Down() {
			t.Errorf("%d: it is not down", n)
		}
		told(t, n, []api.Errno{d.Sync(), d.Write(0, []byte("b"))}, api.ErrDown, api.ErrDown)
		d.Crash(nil)
		told(t, n, []api.Errno{d.Sync(), d.Write(0, []byte("c")), d.Sync(), d.Sync()}, api.OK, api.OK, api.OK, api.OK)
		holds(t, n, d, "c")
	}
}

// TestDownBehindTheCallThatTellsIt: a fuse of which nothing is left has not gone down yet.
func TestDownBehindTheCallThatTellsIt(t *testing.T) {
	d := made(t, 1)
	d.Fuse(1)
	told(t, "the first", []api.Errno{d.Write(0, []byte("a"))}, api.OK)
	if d.Down() {
		t.Error("it is down ahead of that")
	}
	d.Crash([]bool{true})
	told(t, "behind a crash", []api.Errno{d.Sync()}, api.OK)
	d.Fuse(0)
	if d.Down() {
		t.Error("it is down by its fuse alone")
	}
	told(t, "the last", []api.Errno{d.Sync()}, api.ErrDown)
	if !d.Down() {
		t.Error("it is not down")
	}
}

// TestCopy: it has what the other one has, pending and sure, its fuse, and whether it is down.
func TestCopy(t *testing.T) {
	d := made(t, 2)
	told(t, "ahead", []api.Errno{d.Write(0, []byte("a")), d.Sync(), d.Write(0, []byte("b")), d.Write(1, []byte("c"))}, api.OK, api.OK, api.OK, api.OK)
	d.Fuse(1)
	for _, c := range []*device.Device{d.Copy(), d.Copy().Copy()} {
		if c == d || c.Len() != 2 || c.Pending() != 2 || c.Down() {
			t.Error(c.Len(), c.Pending(), c.Down())
		}
		holds(t, "read", c, "b", "c")
		told(t, "the fuse", []api.Errno{c.Write(1, []byte("d")), c.Sync()}, api.OK, api.ErrDown)
		again := c.Copy()
		if !again.Down() || again.Pending() != 3 || d.Down() {
			t.Error(again.Down(), again.Pending(), d.Down())
		}
		told(t, "down", []api.Errno{again.Sync()}, api.ErrDown)
		c.Crash([]bool{false, false, true})
		holds(t, "behind a crash", c, "a", "d")
		holds(t, "the copy's copy", again, "b", "d")
		again.Crash([]bool{false, true})
		holds(t, "the copy's copy, behind a crash", again, "a", "c")
	}
	holds(t, "the other one", d, "b", "c")
	told(t, "the other one's fuse", []api.Errno{d.Sync(), d.Sync()}, api.OK, api.ErrDown)
}

// TestCopiesShareNothing: whatever is done with one of both, the other one stays.
func TestCopiesShareNothing(t *testing.T) {
	for i, do := range []func(d *device.Device){
		func(d *device.Device) { d.Write(0, []byte("z")); d.Write(1, []byte("z")) },
		func(d *device.Device) { d.Sync() },
		func(d *device.Device) { d.Sync(); d.Write(0, []byte("z")); d.Sync() },
		func(d *device.Device) { d.Crash(nil) },
		func(d *device.Device) { d.Crash([]bool{true, true}); d.Write(1, []byte("z")) },
		func(d *device.Device) { d.Crash([]bool{false, true}); d.Write(0, []byte("y")); d.Write(0, []byte("z")) },
		func(d *device.Device) { d.Fuse(0); d.Sync() },
		func(d *device.Device) { d.Fuse(-1) },
	} {
		for _, copied := range []bool{false, true} {
			d := made(t, 2)
			told(t, i, []api.Errno{d.Write(0, []byte("a")), d.Write(1, []byte("b")), d.Sync(), d.Write(0, []byte("c")), d.Write(0, []byte("d"))}, api.OK, api.OK, api.OK, api.OK, api.OK)
			d.Fuse(1)
			changed, kept := d, d.Copy()
			if copied {
				changed, kept = kept, d
			}
			do(changed)
			holds(t, i, kept, "d", "b")
			if kept.Pending() != 2 || kept.Down() {
				t.Errorf("%d: %d pending, %v", i, kept.Pending(), kept.Down())
			}
			told(t, i, []api.Errno{kept.Write(1, []byte("e"))}, api.OK)
			told(t, i, []api.Errno{kept.Sync()}, api.ErrDown)
			do(changed)
			kept.Crash([]bool{true, false, true})
			holds(t, i, kept, "c", "e")
		}
	}
}

// R1 and R5

// TestNoDevice: a nil one, and one that New has not made, have no sectors.
func TestNoDevice(t *testing.T) {
	for i, d := range []*device.Device{nil, {}, (*device.Device)(nil).Copy(), (&device.Device{}).Copy()} {
		for _, at := range []int{0, 1, -1, math.MaxInt, math.MinInt} {
			told(t, i, []api.Errno{d.Write(at, nil), d.Write(at, make([]byte, 257))}, api.ErrSector, api.ErrSector)
			if b, e := d.Read(at); len(b) != 0 || e != api.ErrSector {
				t.Errorf("%d: %x %v", i, b, e)
			}
		}
		told(t, i, []api.Errno{d.Sync(), d.Sync()}, api.OK, api.OK)
		d.Crash(nil)
		d.Crash([]bool{true, false})
		d.Fuse(-1)
		if d.Len() != 0 || d.Pending() != 0 || d.Down() {
			t.Errorf("%d: %d sectors, %d pending, %v", i, d.Len(), d.Pending(), d.Down())
		}
		d.Fuse(1)
		c := d.Copy()
		if one, other := []api.Errno{d.Sync(), d.Sync()}, []api.Errno{c.Sync(), c.Sync()}; !slices.Equal(one, other) || d.Down() != c.Down() {
			t.Errorf("%d: %v %v, its copy %v %v", i, one, d.Down(), other, c.Down())
		}
	}
}

// TestNothingIsChangedOrShared: of what is handed in, and of what was answered.
func TestNothingIsChangedOrShared(t *testing.T) {
	d := made(t, 2)
	whole := noise(1, 300)
	b := whole[10:50]
	was := slices.Clone(whole)
	told(t, "ahead", []api.Errno{d.Write(0, b), d.Write(1, whole[:256])}, api.OK, api.OK)
	if !bytes.Equal(whole, was) {
		t.Errorf("changed: %x", whole)
	}
	clear(whole)
	holds(t, "what was handed in", d, string(was[10:50]), string(was[:256]))
	for _, synced := range []bool{false, true} {
		one, _ := d.Read(0)
		other, _ := d.Read(0)
		clear(one[:cap(one)])
		if !bytes.Equal(other, padded(was[10:50])) {
			t.Errorf("%v: shared: %x", synced, other)
		}
		holds(t, synced, d, string(was[10:50]), string(was[:256]))
		told(t, synced, []api.Errno{d.Sync()}, api.OK)
	}
	got, _ := d.Read(0)
	told(t, "the same sector", []api.Errno{d.Write(0, got)}, api.OK)
	told(t, "another sector", []api.Errno{d.Write(1, got)}, api.OK)
	clear(got)
	keep := []bool{true, true, false}
	d.Crash(keep)
	if !slices.Equal(keep, []bool{true, true, false}) {
		t.Errorf("changed: %v", keep)
	}
	clear(keep)
	holds(t, "then", d, string(was[10:50]), string(was[10:50]))
}

// TestWhatWasReadStays: whatever is written, synced or lost then.
func TestWhatWasReadStays(t *testing.T) {
	d := made(t, 1)
	told(t, "ahead", []api.Errno{d.Write(0, []byte("a"))}, api.OK)
	got, _ := d.Read(0)
	told(t, "then", []api.Errno{d.Write(0, []byte("b")), d.Sync(), d.Write(0, []byte("c"))}, api.OK, api.OK, api.OK)
	d.Crash([]bool{true})
	if !bytes.Equal(got, padded([]byte("a"))) {
		t.Errorf("%x", got)
	}
}

// TestChapterExamples: the chapter's own.
func TestChapterExamples(t *testing.T) {
	d := made(t, 2)
	told(t, "the first", []api.Errno{d.Write(0, []byte{1, 2})}, api.OK)
	d.Crash(nil)
	holds(t, "the first", d, "")
	d = made(t, 2)
	told(t, "the second", []api.Errno{d.Write(0, []byte{1, 2}), d.Write(1, []byte{3})}, api.OK, api.OK)
	d.Crash([]bool{false, true})
	holds(t, "the second", d, "", "\x03")
	d = made(t, 2)
	d.Fuse(1)
	told(t, "the third", []api.Errno{d.Write(0, []byte{1}), d.Write(1, []byte{1})}, api.OK, api.ErrDown)
}
