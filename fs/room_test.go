package fs_test

import (
	"fmt"
	"testing"
)

// TestExamples: the chapter's.
func TestExamples(t *testing.T) {
	k := made(t, 400, 20)
	k.free("P10.5", 149, 19)
	k.do(mkdir("/a"), create("/a/x"), app("/a/x", fill(1, 600)))
	k.free("P10.5", 145, 17)
	k.refuse("P10.3", rename("/a", "/a/b"), arg)
	k.refuse("P10.3", remove("/a"), busy)
}

// TestFree: behind each call, what a file of each size has.
func TestFree(t *testing.T) {
	k := made(t, 700, 20)
	k.free("P10.5", 449, 19)
	k.do(create("/a"))
	k.free("P10.5", 448, 18)
	for _, c := range []struct{ size, blocks int }{{1, 1}, {512, 1}, {513, 2}, {5120, 10}, {5121, 12}, {5633, 13}, {20000, 41}, {5120, 10}, {0, 0}} {
		k.do(truncate("/a", c.size))
		k.free("P10.5", 448-c.blocks, 18)
		k.do(begin(), truncate("/a", 0))
		k.free("P10.5", 448, 18)
		k.do(abort())
		k.free("P10.5", 448-c.blocks, 18)
	}
	k.do(app("/a", fill(1, 6000)))
	k.free("P10.5", 435, 18)
	k.do(write("/a", 0, fill(2, 6000)))
	k.free("P10.5", 435, 18)
	k.do(remove("/a"))
	k.free("P10.5", 448, 19)
}

// TestDirectoriesHaveBlocks: so many as their slots lie in; names that are gone leave their slots.
func TestDirectoriesHaveBlocks(t *testing.T) {
	k := made(t, 1000, 200)
	p := newPlain(k.f.Free())
	k.must("P10.5", mkdir("/d"), p.create("/d", 2))
	for i := range 120 {
		c := create(fmt.Sprint("/d/", i))
		k.must("P10.5", c, c.onPlain(p))
		k.free("P10.5", p.blocks, p.inodes)
		k.stat("P10.5", "/d", 2, 64*(i+1))
	}
	blocks, inodes := k.f.Free()
	for i := range 120 {
		k.do(remove(fmt.Sprint("/d/", i)))
	}
	k.free("P10.5", blocks, inodes+120)
	k.do(remove("/d"))
	k.free("P10.5", blocks+16, inodes+121)
}

// fills takes blocks for files until so many are free.
func fills(k *kit, path string, left int) {
	k.t.Helper()
	k.do(create(path))
	for range 300 {
		blocks, _ := k.f.Free()
		if blocks == left {
			return
		}
		// A file that comes to have a block of numbers takes two at once: it ends there, and another one goes on.
		if s, _ := k.f.Stat(path); s.Size == 5120 {
			path += "+"
			k.do(create(path))
			continue
		}
		k.do(app(path, fill(1, 512)))
	}
	k.t.Fatalf("P10.5: there is no end of blocks")
}

// TestNoBlock: a device without room for a block, or with one too few.
func TestNoBlock(t *testing.T) {
	for left := range 4 {
		k := made(t, 300, 40)
		k.do(mkdir("/d"), create("/ten"), app("/ten", fill(1, 5120)), create("/e"), create("/x"), create("/y"))
		fills(k, "/fill", left)
		try := func(need int, c call) {
			t.Helper()
			if left < need {
				k.refuse("P10.5", c, full)
				return
			}
			k.do(begin(), c)
			blocks, _ := k.f.Free()
			if blocks != left-need {
				t.Errorf("P10.5: %v took %d blocks, want %d", c, left-blocks, need)
			}
			k.do(abort())
		}
		try(1, app("/e", fill(1, 1)))
		try(1, write("/e", 0, fill(1, 512)))
		try(2, truncate("/e", 513))
		try(3, app("/e", fill(1, 1025)))
		try(2, app("/ten", fill(1, 1)))
		try(2, truncate("/ten", 5121))
		try(3, write("/ten", 5120, fill(1, 513)))
		try(0, write("/ten", 0, fill(2, 5120)))
		try(-10, truncate("/ten", 0))
		try(1, create("/d/n"))
		try(1, mkdir("/d/n"))
		try(1, rename("/x", "/d/n"))
		try(1, rename("/ten", "/d/n"))
		try(0, rename("/x", "/y"))
		try(0, remove("/x"))
	}
}

// TestNoSlot: a root of full blocks and a device without a free one: names are refused until one is gone, but for those that take another one's slot.
func TestNoSlot(t *testing.T) {
	k := made(t, 300, 40)
	fills(k, "/a", 0)
	for i := 0; ; i++ {
		if s, _ := k.f.Stat("/"); s.Size%512 == 0 {
			break
		}
		k.do(create(fmt.Sprint("/n", i)))
	}
	k.refuse("P10.5", create("/z"), full)
	k.refuse("P10.5", mkdir("/z"), full)
	k.refuse("P10.5", rename("/n0", "/z"), full)
	k.refuse("P10.5", rename("/n0", "/n0"), ok)
	k.do(rename("/n0", "/n1"))
	k.do(create("/z"))
	k.refuse("P10.5", create("/y"), full)
	k.do(remove("/z"), rename("/n1", "/z"), mkdir("/y"))
	k.refuse("P10.5", create("/y/x"), full)
}

// TestEleventhBlock: where a directory comes to have a block of numbers too, two must be free.
func TestEleventhBlock(t *testing.T) {
	for left := range 3 {
		k := made(t, 330, 200)
		k.do(mkdir("/d"))
		for i := range 80 {
			k.do(create(fmt.Sprint("/d/n", i)))
		}
		fills(k, "/fill", left)
		k.stat("P10.5", "/d", 2, 5120)
		for _, c := range []call{create("/d/z"), mkdir("/d/z"), rename("/fill", "/d/z"), rename("/d/n0", "/d/z")} {
			if left < 2 {
				k.refuse("P10.5", c, full)
				continue
			}
			k.do(begin(), c)
			blocks, _ := k.f.Free()
			if blocks != 0 {
				t.Errorf("P10.5: %v leaves %d blocks, want none", c, blocks)
			}
			k.do(abort())
		}
	}
}

// TestNoInode: without a free one nothing is made; what is gone gives its own back.
func TestNoInode(t *testing.T) {
	k := made(t, 400, 4)
	k.do(create("/a"), mkdir("/b"), create("/b/c"))
	k.free("P10.5", 149, 0)
	for _, c := range []call{create("/z"), mkdir("/z"), create("/b/z"), mkdir("/b/z")} {
		k.refuse("P10.5", c, full)
	}
	k.refuse("P10.3", create("/a"), exist)
	k.refuse("P10.3", create("/q/z"), none)
	k.do(rename("/b/c", "/c"), app("/c", fill(1, 10)), rename("/a", "/c"))
	k.free("P10.5", 149, 1)
	k.do(mkdir("/b/z"))
	k.refuse("P10.5", create("/y"), full)
	k.do(remove("/b/z"), create("/y"), remove("/c"), create("/c"))
	k.free("P10.5", 149, 0)
	one := made(t, 400, 1)
	one.refuse("P10.5", create("/a"), full)
	one.refuse("P10.5", mkdir("/a"), full)
	one.free("P10.5", 151, 0)
}

// TestGivenBackAtOnce: what a call of a transaction gives back the next one may use.
func TestGivenBackAtOnce(t *testing.T) {
	k := made(t, 260, 4)
	k.do(create("/a"), app("/a", fill(1, 5120)), create("/b"))
	k.free("P10.5", 0, 1)
	k.refuse("P10.5", app("/b", fill(2, 1)), full)
	k.do(begin(), remove("/a"), app("/b", fill(2, 5120)), commit())
	k.holds("P10.5", "/b", fill(2, 5120))
	k.free("P10.5", 0, 2)
	k.do(begin(), truncate("/b", 0), create("/c"), app("/c", fill(3, 5120)), abort())
	k.holds("P10.5", "/b", fill(2, 5120))
	k.free("P10.5", 0, 2)
}

// TestGreatDirectory: a directory has at most as many slots as a file has bytes for.
func TestGreatDirectory(t *testing.T) {
	k := made(t, 1000, 1200)
	for i := range 1104 {
		k.do(create(fmt.Sprint("/n", i)))
	}
	k.stat("P10.5", "/", 2, 70656)
	k.refuse("P10.3", create("/z"), big)
	k.refuse("P10.3", rename("/n7", "/z"), big)
	k.do(begin(), remove("/n5"), create("/y"))
	k.refuse("P10.3", mkdir("/z"), big)
	k.do(rename("/n6", "/n7"), mkdir("/z"), commit())
	mounted(t, k.d).stat("P10.5", "/z", 2, 0)
}
