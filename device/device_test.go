package device_test

import (
	"bytes"
	"math"
	"slices"
	"testing"

	"bollard/api"
	"bollard/device"
)

// made is a device of n blocks.
func made(t *testing.T, n int) *device.Device {
	t.Helper()
	d, e := device.New(n)
	if e != api.OK || d == nil {
		t.Fatalf("P3.1: New(%d) = %v, error %d", n, d, e)
	}
	return d
}

// full is a block that v tells, with no two bytes side by side the same.
func full(v int) []byte {
	b := make([]byte, api.Block)
	for i := range b {
		b[i] = byte(v + 7*i)
	}
	return b
}

// row is the blocks that were written by full, by their v; a block of noughts is -1.
func row(t *testing.T, d *device.Device) (out []int) {
	t.Helper()
	for k := range d.Blocks() {
		b, e := d.Read(k)
		if e != api.OK || len(b) != api.Block {
			t.Fatalf("P3.1: Read(%d) = %d bytes, error %d", k, len(b), e)
		}
		switch {
		case bytes.Equal(b, make([]byte, api.Block)):
			out = append(out, -1)
		case bytes.Equal(b, full(int(b[0]))):
			out = append(out, int(b[0]))
		default:
			t.Fatalf("P3.1: Read(%d) = %x: nobody wrote that", k, b)
		}
	}
	return out
}

// put writes what must be taken.
func put(t *testing.T, d *device.Device, k, v int) {
	t.Helper()
	if e := d.Write(k, full(v)); e != api.OK {
		t.Fatalf("P3.2: Write(%d) = %d", k, e)
	}
}

// flush must be taken.
func flush(t *testing.T, d *device.Device) {
	t.Helper()
	if e := d.Flush(); e != api.OK {
		t.Fatalf("P3.2: Flush() = %d", e)
	}
}

// want holds the blocks of d against v.
func want(t *testing.T, what string, d *device.Device, v ...int) {
	t.Helper()
	if got := row(t, d); !slices.Equal(got, v) {
		t.Errorf("%s: blocks %v, want %v", what, got, v)
	}
}

// noBlocks are numbers that are no block of a device with n of them.
func noBlocks(n int) []int {
	return []int{-1, -2, n, n + 1, -n, 1 << 16, 1 << 32, -1 << 32, math.MinInt, math.MaxInt}
}

// noBytes are bytes that are not 512.
func noBytes() [][]byte {
	return [][]byte{nil, {}, {1}, full(1)[:511], append(full(1), 1), append(full(1), full(2)...), make([]byte, 0, 512)}
}

func TestNewEdges(t *testing.T) {
	for _, n := range []int{0, -1, -2, -512, math.MinInt, api.MaxBlocks + 1, api.MaxBlocks + 2, 1 << 32, 1<<32 + 1, math.MaxInt} {
		if d, e := device.New(n); d != nil || e != api.ErrArg {
			t.Errorf("P3.1: New(%d) = %v, error %d, want none, error %d", n, d, e, api.ErrArg)
		}
	}
	for _, n := range []int{1, 2, 245, 246, api.MaxBlocks - 1, api.MaxBlocks} {
		d := made(t, n)
		if d.Blocks() != n || d.Ops() != 0 {
			t.Errorf("P3.1: New(%d): %d blocks, %d ops", n, d.Blocks(), d.Ops())
		}
		for _, k := range []int{0, n / 2, n - 1} {
			if b, e := d.Read(k); e != api.OK || !bytes.Equal(b, make([]byte, 512)) {
				t.Errorf("P3.1: New(%d): Read(%d) = %x, error %d", n, k, b, e)
			}
		}
		for _, k := range noBlocks(api.MaxBlocks) {
			if b, e := d.Read(k); b != nil || e != api.ErrArg {
				t.Errorf("P3.1: New(%d): Read(%d) = %x, error %d", n, k, b, e)
			}
		}
	}
}

func TestGreatestDevice(t *testing.T) {
	d := made(t, api.MaxBlocks)
	put(t, d, 0, 1)
	put(t, d, api.MaxBlocks-1, 2)
	flush(t, d)
	put(t, d, api.MaxBlocks-1, 3)
	for what, x := range map[string]*device.Device{"Copy": d.Copy(), "Crash": d.Crash([]int{1})} {
		first, _ := x.Read(0)
		last, _ := x.Read(api.MaxBlocks - 1)
		if x.Blocks() != api.MaxBlocks || !bytes.Equal(first, full(1)) || !bytes.Equal(last, full(3)) {
			t.Errorf("P3.3, P3.4: %s of the greatest device: %d blocks, first %x, last %x", what, x.Blocks(), first[:4], last[:4])
		}
	}
}

func TestReadEdges(t *testing.T) {
	for _, n := range []int{1, 3} {
		d := made(t, n)
		for round := range 3 {
			for _, k := range noBlocks(n) {
				if b, e := d.Read(k); b != nil || e != api.ErrArg {
					t.Errorf("P3.1: of %d blocks: Read(%d) = %x, error %d", n, k, b, e)
				}
			}
			if round == 0 {
				put(t, d, n-1, 5)
			} else {
				flush(t, d)
			}
		}
	}
}

func TestReadIsTheLastWrite(t *testing.T) {
	d := made(t, 4)
	want(t, "P3.1: new", d, -1, -1, -1, -1)
	put(t, d, 3, 1)
	put(t, d, 0, 2)
	want(t, "P3.1: pending", d, 2, -1, -1, 1)
	put(t, d, 3, 3)
	want(t, "P3.1: pending twice", d, 2, -1, -1, 3)
	flush(t, d)
	want(t, "P3.1: flushed", d, 2, -1, -1, 3)
	put(t, d, 3, 4)
	put(t, d, 3, 1)
	put(t, d, 1, 9)
	want(t, "P3.1: flushed and pending", d, 2, 9, -1, 1)
	flush(t, d)
	flush(t, d)
	want(t, "P3.1: flushed again", d, 2, 9, -1, 1)
}

func TestNoughtsOverBytes(t *testing.T) {
	d := made(t, 1)
	put(t, d, 0, 1)
	flush(t, d)
	if e := d.Write(0, make([]byte, 512)); e != api.OK {
		t.Fatalf("P3.2: Write of noughts = %d", e)
	}
	want(t, "P3.1: noughts over bytes", d, -1)
	want(t, "P3.3: noughts over bytes", d.Crash([]int{0}), 1)
	flush(t, d)
	want(t, "P3.2: noughts over bytes, flushed", d.Crash([]int{0}), -1)
}

func TestWhatIsReadIsNew(t *testing.T) {
	d := made(t, 2)
	put(t, d, 0, 1)
	for _, k := range []int{0, 1} {
		a, _ := d.Read(k)
		b, _ := d.Read(k)
		clear(a[:cap(a)])
		a[0], a[511] = 77, 78
		c, _ := d.Read(k)
		if !bytes.Equal(b, c) || b[0] == 77 {
			t.Errorf("P3.1: what Read(%d) answered was kept", k)
		}
	}
	want(t, "P3.1: what is pending was handed out", d, 1, -1)
	flush(t, d)
	a, _ := d.Read(0)
	clear(a)
	want(t, "P3.1: what is flushed was handed out", d, 1, -1)
	want(t, "P3.1: what is flushed was handed out", d.Crash(nil), 1, -1)
}

func TestWhatIsWrittenIsCopied(t *testing.T) {
	whole := bytes.Repeat([]byte{0xee}, 2000)
	b := whole[100:612]
	copy(b, full(1))
	before := slices.Clone(whole)
	d := made(t, 1)
	if e := d.Write(0, b); e != api.OK {
		t.Fatalf("P3.2: Write of 512 bytes with spare room = %d", e)
	}
	r, _ := d.Read(0)
	clear(r[:cap(r)])
	if !bytes.Equal(whole, before) {
		t.Error("P3.2: Write changed, or Read handed out, what was handed in")
	}
	copy(b, full(2))
	want(t, "P3.2: what was written was kept", d, 1)
	want(t, "P3.2: what was written was kept", d.Crash([]int{1}), 1)
	flush(t, d)
	clear(b)
	want(t, "P3.2: what was flushed was kept", d.Crash(nil), 1)
}

func TestOpsAreAllCounted(t *testing.T) {
	d := made(t, 2)
	n := 0
	count := func(what string, by int) {
		t.Helper()
		n += by
		if d.Ops() != n {
			t.Errorf("P3.1: behind %s: Ops() = %d, want %d", what, d.Ops(), n)
		}
	}
	count("New", 0)
	d.Write(0, full(1))
	count("Write", 1)
	d.Flush()
	count("Flush", 1)
	d.Flush()
	count("a Flush of nothing", 1)
	d.Write(2, full(1))
	count("a Write of no block", 1)
	d.Write(0, nil)
	count("a Write of no bytes", 1)
	d.Write(-1, nil)
	count("a Write of neither", 1)
	d.Read(0)
	d.Read(9)
	d.Blocks()
	d.Ops()
	d.Crash(nil)
	d.Copy()
	d.Cut(1)
	count("what is no op", 0)
	d.Write(1, full(1))
	count("the last Write", 1)
	d.Write(1, full(1))
	d.Write(9, nil)
	d.Flush()
	count("ops without power", 3)
	d.Read(0)
	d.Cut(0)
	d.Cut(-1)
	d.Crash(nil).Flush()
	d.Copy().Flush()
	count("what is no op of a device that is off", 0)
}
