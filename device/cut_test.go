package device_test

import (
	"math"
	"testing"

	"bollard/api"
	"bollard/device"
)

func TestWrongWrites(t *testing.T) {
	d := made(t, 3)
	put(t, d, 0, 1)
	flush(t, d)
	put(t, d, 1, 2)
	refused := func(k int, b []byte) {
		t.Helper()
		if e := d.Write(k, b); e != api.ErrArg {
			t.Errorf("P3.2: Write(%d, %d bytes) = %d, want %d", k, len(b), e, api.ErrArg)
		}
	}
	for _, k := range noBlocks(3) {
		refused(k, full(9))
		refused(k, nil)
	}
	for _, b := range noBytes() {
		for k := range 3 {
			refused(k, b)
		}
		refused(3, b)
		refused(-1, b)
	}
	want(t, "P3.2: refused writes", d, 1, 2, -1)
	want(t, "P3.2: refused writes are pending", d.Crash([]int{1, 1, 1}), 1, 2, -1)
	want(t, "P3.2: refused writes have turns", d.Crash([]int{2, 2, 2}), 1, -1, -1)
}

// TestCutAtEachOp: of ten ops those ahead of the cut are done, those behind it are not.
func TestCutAtEachOp(t *testing.T) {
	for n := -2; n <= 11; n++ {
		d := made(t, 10)
		d.Cut(n)
		for k := range 10 {
			wantErr := api.OK
			if k >= n {
				wantErr = api.ErrOff
			}
			if e := d.Write(k, full(k)); e != wantErr {
				t.Errorf("P3.2: Cut(%d): op %d = %d, want %d", n, k, e, wantErr)
			}
		}
		for k, v := range row(t, d) {
			if done := v == k; done != (k < n) {
				t.Errorf("P3.2: Cut(%d): block %d is %d", n, k, v)
			}
		}
		if d.Ops() != 10 {
			t.Errorf("P3.1: Cut(%d): Ops() = %d, want 10", n, d.Ops())
		}
	}
}

// TestCutCountsFlushesAndRefusals: whatever an op answers, it is one of the n.
func TestCutCountsFlushesAndRefusals(t *testing.T) {
	ops := []struct {
		name string
		do   func(d *device.Device) api.Errno
		on   api.Errno
	}{
		{"Flush", func(d *device.Device) api.Errno { return d.Flush() }, api.OK},
		{"Write", func(d *device.Device) api.Errno { return d.Write(1, full(1)) }, api.OK},
		{"Write of no block", func(d *device.Device) api.Errno { return d.Write(2, full(1)) }, api.ErrArg},
		{"Write of no bytes", func(d *device.Device) api.Errno { return d.Write(0, nil) }, api.ErrArg},
		{"Write of neither", func(d *device.Device) api.Errno { return d.Write(-1, full(1)[:511]) }, api.ErrArg},
	}
	for _, x := range ops {
		for _, n := range []int{0, 1, 2, 3} {
			d := made(t, 2)
			d.Cut(n)
			for i := range n {
				if e := x.do(d); e != x.on {
					t.Errorf("P3.2: Cut(%d): %s, op %d = %d, want %d", n, x.name, i, e, x.on)
				}
			}
			for _, y := range ops {
				if e := y.do(d); e != api.ErrOff {
					t.Errorf("P3.2: Cut(%d), so many of %s, then %s = %d, want %d", n, x.name, y.name, e, api.ErrOff)
				}
			}
		}
	}
}

func TestOffIsToldFirst(t *testing.T) {
	d := made(t, 2)
	for _, k := range append(noBlocks(2), 0, 1) {
		for _, b := range append(noBytes(), full(1)) {
			d.Cut(0)
			if e := d.Write(k, b); e != api.ErrOff {
				t.Errorf("P3.2: without power: Write(%d, %d bytes) = %d, want %d", k, len(b), e, api.ErrOff)
			}
		}
	}
	want(t, "P3.2: written without power", d, -1, -1)
}

func TestOffDoesNothing(t *testing.T) {
	d := made(t, 2)
	put(t, d, 0, 1)
	flush(t, d)
	put(t, d, 0, 2)
	put(t, d, 1, 3)
	d.Cut(0)
	for range 3 {
		if e, f := d.Flush(), d.Write(0, full(9)); e != api.ErrOff || f != api.ErrOff {
			t.Errorf("P3.2: without power: Flush = %d, Write = %d", e, f)
		}
	}
	want(t, "P3.2: without power: Read", d, 2, 3)
	want(t, "P3.2: without power: a Flush was done", d.Crash(nil), 1, -1)
	want(t, "P3.2: without power: a Write was done", d.Crash([]int{3, 2}), 2, -1)
	for _, k := range noBlocks(2) {
		if b, e := d.Read(k); b != nil || e != api.ErrArg {
			t.Errorf("P3.1: without power: Read(%d) = %x, error %d", k, b, e)
		}
	}
}

func TestLaterCutTakesItsPlace(t *testing.T) {
	for _, x := range []struct {
		cuts []int // one after the other, with an op between
		then int   // ops that are done behind the last
	}{
		{[]int{5, 2}, 2},
		{[]int{2, 5}, 5},
		{[]int{0, 3}, 3},
		{[]int{-7, 1}, 1},
		{[]int{0, 0}, 0},
		{[]int{0, -1}, 0},
		{[]int{4, -4}, 0},
		{[]int{4, 0}, 0},
		{[]int{0, 0, 0, 2}, 2},
		{[]int{1, 1, 1, 1}, 1},
		{[]int{math.MaxInt, 3}, 3},
		{[]int{math.MinInt, 3}, 3},
		{[]int{3, math.MinInt}, 0},
		{[]int{math.MaxInt, math.MinInt}, 0},
		{[]int{math.MinInt, math.MaxInt, 4}, 4},
	} {
		d := made(t, 1)
		for _, n := range x.cuts {
			d.Flush()
			d.Cut(n)
		}
		done := 0
		for range 20 {
			if d.Flush() == api.OK {
				done++
			}
		}
		if done != x.then {
			t.Errorf("P3.2: Cuts %v: %d ops are done behind them, want %d", x.cuts, done, x.then)
		}
	}
}

func TestGreatestCut(t *testing.T) {
	d := made(t, 1)
	for range 3 {
		flush(t, d)
	}
	for _, n := range []int{math.MaxInt, math.MaxInt - 1, 1 << 62, 1 << 32, 1 << 31} {
		d.Cut(n)
		for i := range 1000 {
			if e := d.Write(0, full(i)); e != api.OK {
				t.Fatalf("P3.2: Cut(%d): op %d = %d", n, i, e)
			}
		}
	}
}

func TestPowerComesBack(t *testing.T) {
	d := made(t, 2)
	put(t, d, 0, 1)
	d.Cut(0)
	d.Flush()
	d.Write(1, full(2))
	d.Cut(2)
	put(t, d, 1, 3)
	want(t, "P3.2: power again", d, 1, 3)
	want(t, "P3.2: power again, all is still pending", d.Crash(nil), -1, -1)
	flush(t, d)
	if e := d.Flush(); e != api.ErrOff {
		t.Errorf("P3.2: off again: Flush = %d", e)
	}
	want(t, "P3.2: power again, a Flush", d.Crash(nil), 1, 3)
}

func TestFlushTakesAll(t *testing.T) {
	d := made(t, 40)
	for k := range 40 {
		for turn := range k % 4 {
			put(t, d, k, 4*k+turn+1)
		}
	}
	flush(t, d)
	var flushed []int
	for k := range 40 {
		v := -1
		if k%4 > 0 {
			v = 4*k + k%4
		}
		flushed = append(flushed, v)
	}
	want(t, "P3.2: flushed", d, flushed...)
	for _, p := range []int{0, 1, 2, -1} {
		picks := make([]int, 40)
		for i := range picks {
			picks[i] = p
		}
		want(t, "P3.2: something is pending behind a Flush", d.Crash(picks), flushed...)
	}
	put(t, d, 7, 200)
	want(t, "P3.2: turns of writes that were flushed", d.Crash([]int{2}), flushed...)
	flushed[7] = 200
	want(t, "P3.2: turns of writes that were flushed", d.Crash([]int{1}), flushed...)
}
