package device

// fuse takes a device down when what it lets pass is spent. The zero value is
// none, so that a device needs no call to be without one.
type fuse struct {
	there bool
	left  int
	burnt bool
}

// set is what Fuse does. A burnt one stays so: only a crash brings a device
// back.
func (f *fuse) set(n int) {
	f.there, f.left = n >= 0, n
}

// spend tells whether one more thing is done.
func (f *fuse) spend() bool {
	if f.there && f.left == 0 {
		f.burnt = true
	}
	if f.burnt {
		return false
	}
	if f.there {
		f.left--
	}
	return true
}
