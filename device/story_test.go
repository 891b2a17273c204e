package device_test

import (
	"math/rand"
	"slices"
	"testing"

	"cablegram/api"
	"cablegram/device"
)

// event is a write that was done.
type event struct {
	at   int
	to   string
	sure bool
}

// story is a device told another way: it has no sectors, but what happened, out of which each answer is found.
type story struct {
	size   int
	events []event
	fuse   int // below 0: none
	down   bool
}

func (s *story) copied() *story {
	c := *s
	c.events = slices.Clone(s.events)
	return &c
}

func (s *story) pending() []int {
	var l []int
	for i, x := range s.events {
		if !x.sure {
			l = append(l, i)
		}
	}
	return l
}

// passes is K4.
func (s *story) passes() bool {
	if s.fuse == 0 {
		s.down = true
	}
	if !s.down {
		s.fuse--
	}
	return !s.down
}

func (s *story) write(i int, b []byte) api.Errno {
	switch {
	case i < 0 || i >= s.size:
		return api.ErrSector
	case len(b) > 256:
		return api.ErrLong
	case !s.passes():
		return api.ErrDown
	}
	s.events = append(s.events, event{at: i, to: string(b)})
	return api.OK
}

func (s *story) sync() api.Errno {
	if !s.passes() {
		return api.ErrDown
	}
	for i := range s.events {
		s.events[i].sure = true
	}
	return api.OK
}

func (s *story) crash(keep []bool) {
	for k, i := range s.pending() {
		s.events[i].sure = k < len(keep) && keep[k]
	}
	s.events = slices.DeleteFunc(s.events, func(x event) bool { return !x.sure })
	s.fuse, s.down = -1, false
}

// read is what a sector's last event wrote.
func (s *story) read(i int) string {
	for _, x := range slices.Backward(s.events) {
		if x.at == i {
			return x.to
		}
	}
	return ""
}

// same asks that a device answers as its story tells.
func (s *story) same(t *testing.T, what any, d *device.Device) {
	t.Helper()
	if d.Len() != s.size || d.Pending() != len(s.pending()) || d.Down() != s.down {
		t.Fatalf("%v: %d sectors, %d pending, %v; want %d, %d, %v", what, d.Len(), d.Pending(), d.Down(), s.size, len(s.pending()), s.down)
	}
	want := make([]string, s.size)
	for i := range want {
		want[i] = s.read(i)
	}
	holds(t, what, d, want...)
}

func coins(r *rand.Rand, n int) []bool {
	l := make([]bool, n)
	for i := range l {
		l[i] = r.Intn(2) == 1
	}
	return l
}

// step does one thing by chance with a device and its story.
func step(t *testing.T, r *rand.Rand, d *device.Device, s *story) {
	t.Helper()
	var got, want api.Errno
	what := r.Intn(20)
	switch {
	case what < 11:
		i, b := r.Intn(s.size+2)-1, noise(r.Int63(), r.Intn(8)*r.Intn(40))
		got, want = d.Write(i, b), s.write(i, b)
	case what < 15:
		got, want = d.Sync(), s.sync()
	case what < 17:
		keep := coins(r, r.Intn(6))
		d.Crash(keep)
		s.crash(keep)
	case what < 19:
		n := r.Intn(14) - 2
		d.Fuse(n)
		if s.fuse = n; n < 0 {
			s.fuse = -1
		}
	default:
		i := r.Intn(s.size)
		got, want = d.Write(i, make([]byte, 257)), api.ErrLong
	}
	if got != want {
		t.Fatalf("%d: %v, want %v", what, got, want)
	}
}

// K1 to K4: whatever is done, and of copies too, that go on by themselves.

func TestStories(t *testing.T) {
	for seed := range int64(200) {
		r := rand.New(rand.NewSource(seed))
		n := 1 + r.Intn(4)
		devices, stories := []*device.Device{made(t, n)}, []*story{{size: n, fuse: -1}}
		for i := range 200 {
			at := r.Intn(len(devices))
			if r.Intn(30) == 0 && len(devices) < 4 {
				devices, stories = append(devices, devices[at].Copy()), append(stories, stories[at].copied())
			}
			step(t, r, devices[at], stories[at])
			for k, d := range devices {
				stories[k].same(t, []int64{seed, int64(i), int64(k)}, d)
			}
		}
	}
}

// K5

func TestWhatWasSyncedSurvives(t *testing.T) {
	for seed := range int64(300) {
		r := rand.New(rand.NewSource(seed))
		d := made(t, 6)
		want := make([]string, 3)
		for i := range want {
			want[i] = string(noise(seed+int64(i), 200))
			told(t, seed, []api.Errno{d.Write(i, []byte("old")), d.Write(i, []byte(want[i]))}, api.OK, api.OK)
		}
		told(t, seed, []api.Errno{d.Sync()}, api.OK)
		for range 1 + r.Intn(3) {
			d.Fuse(r.Intn(8) - 1)
			for range r.Intn(10) {
				d.Write(3+r.Intn(3), noise(r.Int63(), 256))
				if r.Intn(3) == 0 {
					d.Sync()
				}
			}
			d.Crash(coins(r, r.Intn(12)))
			holds(t, seed, d, want...)
		}
	}
}
