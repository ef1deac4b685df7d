package fs_test

import (
	"testing"

	"bollard/api"
	"bollard/fs"
)

// isOff must be what Off tells.
func (k *kit) isOff(want bool) {
	k.t.Helper()
	if k.f.Off() != want {
		k.t.Fatalf("P10.2: Off() = %v, want %v", !want, want)
	}
}

// TestOff: a file system is off from the call on that answers ErrOff, and for ever; one that was never mounted is.
func TestOff(t *testing.T) {
	for _, f := range []*fs.FS{nil, {}} {
		if !f.Off() {
			t.Error("P10.7: Off() of none = false")
		}
	}
	old, _ := grown(t, 400, 20)
	for _, within := range []bool{false, true} {
		k := old.fork()
		k.isOff(false)
		k.refuse("P10.3", create("/x"), exist)
		k.isOff(false)
		k.d.Cut(0)
		k.isOff(false) // nobody has asked the device for anything yet
		if within {
			k.do(begin(), create("/n"))
			k.isOff(false)
			k.must("P10.2", commit(), off)
		} else {
			k.must("P10.2", create("/n"), off)
		}
		k.isOff(true)
		k.d.Cut(1000)
		k.isOff(true)
		k.refuse("P10.2", create("/n"), off)
		k.isOff(true)
	}
}

// TestNotOff: a file system within a transaction is not off, also if that is too great.
func TestNotOff(t *testing.T) {
	k := made(t, 900, 20)
	k.do(create("/x"), begin())
	k.isOff(false)
	for e := ok; e == ok; {
		e = app("/x", fill(1, api.Block)).on(k.f)
	}
	k.refuse("P10.2", create("/n"), big)
	k.isOff(false)
	k.refuse("P10.2", commit(), big)
	k.isOff(false)
	k.do(create("/n"))
}
