package device_test

import (
	"math"
	"testing"

	"bollard/api"
	"bollard/device"
)

func TestCopyIsAsTheDevice(t *testing.T) {
	d := made(t, 3)
	put(t, d, 0, 1)
	flush(t, d)
	put(t, d, 0, 2)
	put(t, d, 0, 3)
	put(t, d, 2, 4)
	d.Write(9, nil)
	d.Cut(1)
	c := d.Copy()
	for i, x := range []*device.Device{c, c.Copy(), d} {
		if x.Blocks() != 3 || x.Ops() != 6 {
			t.Errorf("P3.4: %d: %d blocks, %d ops", i, x.Blocks(), x.Ops())
		}
		want(t, "P3.4: Copy", x, 3, -1, 4)
		want(t, "P3.4: Copy, pending", x.Crash(nil), 1, -1, -1)
		want(t, "P3.4: Copy, pending", x.Crash([]int{1, 1}), 2, -1, 4)
		want(t, "P3.4: Copy, pending", x.Crash([]int{2}), 3, -1, -1)
		put(t, x, 0, 5)
		want(t, "P3.4: Copy, a third turn", x.Crash([]int{3, 2}), 5, -1, -1)
		if e := x.Flush(); e != api.ErrOff || x.Ops() != 8 {
			t.Errorf("P3.4: %d: the cut: Flush() = %d, %d ops", i, e, x.Ops())
		}
	}
}

func TestCopyOfAnyCut(t *testing.T) {
	for _, n := range []int{math.MinInt, -1, 0, 1, 2, 5} {
		d := made(t, 1)
		d.Cut(n)
		c := d.Copy()
		for i := range 8 {
			wantErr := api.OK
			if i >= n {
				wantErr = api.ErrOff
			}
			if e := c.Flush(); e != wantErr {
				t.Errorf("P3.4: Copy of Cut(%d): op %d = %d, want %d", n, i, e, wantErr)
			}
		}
		if d.Ops() != 0 || c.Ops() != 8 {
			t.Errorf("P3.4: Copy of Cut(%d): %d ops of the device, %d of the copy", n, d.Ops(), c.Ops())
		}
	}
	d := made(t, 1)
	c := d.Copy()
	d.Cut(0)
	for range 20 {
		flush(t, c)
	}
	if e := d.Flush(); e != api.ErrOff {
		t.Errorf("P3.4: the device behind a Copy that is not cut: %d", e)
	}
}

func TestCopyOfOff(t *testing.T) {
	d := made(t, 1)
	put(t, d, 0, 1)
	d.Cut(0)
	d.Flush()
	c := d.Copy()
	if e := c.Write(0, full(2)); e != api.ErrOff {
		t.Errorf("P3.4: Copy of a device that is off: Write = %d", e)
	}
	c.Cut(3)
	put(t, c, 0, 2)
	flush(t, c)
	want(t, "P3.4: Copy that has power again", c.Crash(nil), 2)
	want(t, "P3.4: the device that has none", d, 1)
	want(t, "P3.4: the device that has none", d.Crash(nil), -1)
	if e := d.Flush(); e != api.ErrOff {
		t.Errorf("P3.4: power of the Copy came to the device: %d", e)
	}
}

// stir does all that changes a device.
func stir(t *testing.T, d *device.Device) {
	t.Helper()
	put(t, d, 0, 60)
	put(t, d, 1, 61)
	put(t, d, 2, 62)
	flush(t, d)
	put(t, d, 0, 63)
	put(t, d, 0, 64)
	put(t, d, 1, 65)
	d.Cut(0)
	d.Flush()
}

func TestCopyAndDeviceAreApart(t *testing.T) {
	for _, which := range []string{"the copy", "the device"} {
		d := made(t, 3)
		put(t, d, 0, 1)
		put(t, d, 1, 2)
		flush(t, d)
		put(t, d, 0, 3)
		used, left := d.Copy(), d
		if which == "the device" {
			used, left = left, used
		}
		stir(t, used)
		what := "P3.4: " + which + " was used, the other"
		want(t, what, left, 3, 2, -1)
		want(t, what, left.Crash([]int{0, 1, 1}), 1, 2, -1)
		want(t, what, left.Crash([]int{1, 1, 1}), 3, 2, -1)
		want(t, what, left.Crash([]int{2, 1, 1}), 1, 2, -1)
		if left.Ops() != 4 {
			t.Errorf("%s: Ops() = %d", what, left.Ops())
		}
		put(t, left, 2, 8)
		flush(t, left)
		want(t, what, left.Crash(nil), 3, 2, 8)
		want(t, "P3.4: "+which, used, 64, 65, 62)
		want(t, "P3.4: "+which, used.Crash([]int{1}), 63, 61, 62)
	}
}

// TestSameTurnsAreApart: the same turn of the same block, written by both.
func TestSameTurnsAreApart(t *testing.T) {
	d := made(t, 1)
	put(t, d, 0, 1)
	c := d.Copy()
	both := []*device.Device{d, c}
	for turn := range 3 {
		for i, x := range both {
			put(t, x, 0, 10*turn+i+10)
		}
	}
	for i, x := range both {
		want(t, "P3.4: the last turn", x, 30+i)
		want(t, "P3.4: the first turn", x.Crash([]int{1}), 1)
		want(t, "P3.4: the second turn", x.Crash([]int{2}), 10+i)
		want(t, "P3.4: the third turn", x.Crash([]int{3}), 20+i)
		flush(t, x)
		want(t, "P3.4: the last turn, flushed", x.Crash(nil), 30+i)
	}
}

func TestDevicesHaveNothingInCommon(t *testing.T) {
	a, b := made(t, 3), made(t, 3)
	put(t, b, 1, 1)
	stir(t, a)
	want(t, "P3.1: another device", b, -1, 1, -1)
	if b.Ops() != 1 {
		t.Errorf("P3.1: another device: Ops() = %d", b.Ops())
	}
	flush(t, b)
}

// empty holds that x has no blocks, whatever is done with it.
func empty(t *testing.T, what string, x *device.Device) {
	t.Helper()
	for _, n := range []int{0, 3, -1, math.MaxInt} {
		for _, k := range append(noBlocks(1), 0, 1) {
			if b, e := x.Read(k); b != nil || e != api.ErrArg {
				t.Errorf("P3.4: %s: Read(%d) = %x, error %d", what, k, b, e)
			}
			for _, b := range append(noBytes(), full(1)) {
				if e := x.Write(k, b); e != api.ErrOff {
					t.Errorf("P3.4: %s: Write(%d, %d bytes) = %d", what, k, len(b), e)
				}
			}
		}
		if e := x.Flush(); e != api.ErrOff {
			t.Errorf("P3.4: %s: Flush() = %d", what, e)
		}
		if x.Blocks() != 0 || x.Ops() != 0 {
			t.Errorf("P3.4: %s: %d blocks, %d ops", what, x.Blocks(), x.Ops())
		}
		x.Cut(n)
	}
}

func TestNilAndZero(t *testing.T) {
	var none *device.Device
	var zero device.Device
	for what, x := range map[string]*device.Device{"nil": none, "zero": &zero, "new": new(device.Device)} {
		empty(t, what, x)
		for _, picks := range [][]int{nil, {}, {0}, {1, -1, math.MinInt}} {
			empty(t, "Crash of "+what, x.Crash(picks))
			empty(t, "Crash of Copy of "+what, x.Copy().Crash(picks))
			empty(t, "Copy of Crash of "+what, x.Crash(picks).Copy())
		}
		empty(t, "Copy of "+what, x.Copy())
	}
}
