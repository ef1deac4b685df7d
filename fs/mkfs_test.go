package fs_test

import (
	"fmt"
	"testing"

	"bollard/api"
	"bollard/device"
	"bollard/fs"
	"bollard/journal"
	"bollard/layout"
)

// TestMkfsRefuses: 6's Make's error, then ErrOff; nothing is written then.
func TestMkfsRefuses(t *testing.T) {
	for _, c := range []struct {
		n, inodes int
		want      api.Errno
	}{
		{1, 8, full}, {1, 0, arg}, {245, 8, full}, {246, 1, full}, {248, 8, full}, {249, 8, full}, {249, 9, full},
		{250, 9, full}, {1000, 0, arg}, {1000, -1, arg}, {1000, 4096, ok}, {1000, 4097, arg}, {700, 4096, full},
		{250, 8, ok}, {251, 9, ok}, {65536, 1, ok}, {65536, 4096, ok},
	} {
		d, _ := device.New(c.n)
		if e := fs.Mkfs(d, c.inodes); e != c.want {
			t.Errorf("P10.1: Mkfs of %d blocks and %d inodes = %d, want %d", c.n, c.inodes, e, c.want)
		}
		if c.want != ok && d.Ops() != 0 {
			t.Errorf("P10.1: Mkfs of %d blocks and %d inodes = %d wrote", c.n, c.inodes, c.want)
		}
	}
	for _, d := range []*device.Device{nil, {}} {
		if e := fs.Mkfs(d, 8); e != arg {
			t.Errorf("P10.1: Mkfs of no device = %d, want ErrArg", e)
		}
	}
}

// TestMkfsOff: ErrOff behind Make's errors, wherever the power goes.
func TestMkfsOff(t *testing.T) {
	small, _ := device.New(248)
	small.Cut(0)
	if e := fs.Mkfs(small, 8); e != full {
		t.Errorf("P10.1: Mkfs of a small device that is off = %d, want ErrFull", e)
	}
	plain, _ := device.New(300)
	if fs.Mkfs(plain, 8) != ok {
		t.Fatal("P10.1: Mkfs")
	}
	for cut := range plain.Ops() {
		d, _ := device.New(300)
		d.Cut(cut)
		if e := fs.Mkfs(d, 8); e != off {
			t.Errorf("P10.1: Mkfs that is cut behind %d ops = %d, want ErrOff", cut, e)
		}
	}
}

// TestMkfsIsEmpty: an empty root, and all is free, on devices of many sizes.
func TestMkfsIsEmpty(t *testing.T) {
	for _, c := range [][2]int{{250, 8}, {400, 20}, {1000, 64}, {1000, 1}, {4346, 8}, {5000, 4096}, {65536, 4096}} {
		k := made(t, c[0], c[1])
		p, _ := layout.Make(c[0], c[1])
		k.is("P10.1", fmt.Sprintf("free %d %d\n/ 2 0 0 [] 0\n", p.DataCount, c[1]-1))
		k.free("P10.5", p.DataCount, c[1]-1)
	}
}

// TestMkfsIsForGood: no crash behind it takes it.
func TestMkfsIsForGood(t *testing.T) {
	for _, picks := range [][]int{nil, {1, 1, 1, 1, 1, 1}, {0, 1, 0, 1}} {
		k := made(t, 300, 8)
		mounted(t, k.d.Crash(picks)).is("P10.1", "free 51 7\n/ 2 0 0 [] 0\n")
	}
}

// worn is a device that had a file system with much in it, with others inodes.
func worn(t *testing.T) *kit {
	t.Helper()
	k := made(t, 400, 40)
	for i := range 30 {
		k.do(create(fmt.Sprint("/f", i)), app(fmt.Sprint("/f", i), fill(i, 40*i)))
	}
	k.do(mkdir("/d"), create("/d/x"), remove("/f3"))
	return k
}

// TestMkfsAgain: a device that had a file system has an empty one.
func TestMkfsAgain(t *testing.T) {
	for _, inodes := range []int{1, 8, 40, 64} {
		k := worn(t)
		if e := fs.Mkfs(k.d, inodes); e != ok {
			t.Fatalf("P10.1: Mkfs again = %d", e)
		}
		fresh := made(t, 400, inodes)
		for _, d := range []*device.Device{k.d.Crash(nil), k.d} {
			n := mounted(t, d)
			n.is("P10.1", show(fresh.f))
			if inodes < 8 {
				continue
			}
			for _, f := range []*kit{n, fresh} {
				f.do(mkdir("/a"), create("/a/x"), app("/a/x", fill(1, 600)), truncate("/a/x", 700), create("/f1"))
			}
			n.is("P10.1", show(fresh.f))
			fresh = made(t, 400, inodes)
		}
	}
}

// TestMkfsCutAgain: what a cut Mkfs leaves of a device that had a file system is the old one, a new one, or none: never something that is not whole.
func TestMkfsCutAgain(t *testing.T) {
	old := worn(t)
	empty := show(made(t, 400, 40).f)
	seen := map[string]int{}
	for cut := range 40 {
		for _, picks := range [][]int{nil, {1}, {0, 1}, {1, 1, 1, 1, 1, 1, 1, 1, 1}} {
			d := old.d.Copy()
			d.Cut(cut)
			done := fs.Mkfs(d, 40)
			f, e := fs.Mount(d.Crash(picks))
			switch {
			case e == bad && done == off:
				seen["none"]++
			case e == ok && show(f) == empty:
				seen["new"]++
			case e == ok && show(f) == show(old.f) && done == off:
				seen["old"]++
			default:
				t.Fatalf("P10.1: Mkfs cut behind %d ops = %d, then Mount = %d", cut, done, e)
			}
		}
	}
	if len(seen) < 2 {
		t.Errorf("the cuts left %v", seen)
	}
}

// TestMountRefuses: 4's Open's errors, then a superblock that is none, or of other Blocks.
func TestMountRefuses(t *testing.T) {
	must := func(what string, d *device.Device, want api.Errno) {
		t.Helper()
		f, e := fs.Mount(d)
		if e != want || f != nil {
			t.Errorf("P10.1: Mount of %s = %v %d, want nothing and %d", what, f, e, want)
		}
	}
	must("no device", nil, arg)
	must("a zero device", &device.Device{}, arg)
	tiny, _ := device.New(245)
	must("a device without room for a journal", tiny, arg)
	plain, _ := device.New(300)
	must("a device without a journal", plain, bad)
	plain.Cut(0)
	must("a device without a journal that is off", plain, bad)
	plain.Cut(99)
	journal.Format(plain)
	must("a device without a superblock", plain, bad)
	super := func(n, inodes int) []byte {
		p, _ := layout.Make(n, inodes)
		return layout.Encode(p)
	}
	for _, n := range []int{299, 301, 65536} {
		plain.Write(245, super(n, 8))
		must("a device with another one's superblock", plain, bad)
	}
	for _, at := range []int{0, 8, 12, 35, 36, 511} {
		b := super(300, 8)
		b[at]++
		plain.Write(245, b)
		must("a device with a bad superblock", plain, bad)
	}
	k := made(t, 300, 8)
	k.d.Cut(0)
	must("a device that is off", k.d, off)
	k.d.Cut(99)
	mounted(t, k.d)
	j, _ := journal.Open(k.d)
	j.Commit([]journal.Change{{Block: 245, Data: make([]byte, 512)}})
	k.d.Cut(0)
	must("a device without a superblock that is off", k.d, off)
	k.d.Cut(99)
	must("a device whose superblock is gone", k.d, bad)
}

// TestMountTells: each Mount tells what was done, and goes on from there; what it tells is for good.
func TestMountTells(t *testing.T) {
	k := made(t, 400, 20)
	p := newPlain(149, 19)
	for _, c := range []call{
		mkdir("/a"), create("/a/x"), app("/a/x", fill(1, 6000)), rename("/a/x", "/y"), create("/a/z"), write("/a/z", 0, fill(2, 9)),
		rename("/a/z", "/y"), mkdir("/a/b"), rename("/a/b", "/c"), remove("/a"), truncate("/y", 3), remove("/c"), remove("/y"),
	} {
		k.must("P10.1", c, c.onPlain(p))
		k.is("P10.1", p.show())
		again := mounted(t, k.d)
		again.is("P10.1", p.show())
		mounted(t, k.d.Crash([]int{1, 2, 1})).is("P10.1", p.show())
		k = again
	}
}

// TestMountForgets: what was begun and not committed is not there behind a Mount.
func TestMountForgets(t *testing.T) {
	k := made(t, 400, 20)
	k.do(create("/a"))
	was := show(k.f)
	k.do(begin(), create("/b"), remove("/a"))
	k = mounted(t, k.d)
	k.is("P10.1", was)
	k.do(create("/b"))
	k.lists("P10.1", "/", "a", "b")
}
