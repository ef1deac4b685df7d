package inode_test

import (
	"math"
	"testing"

	"bollard/api"
)

// TestExamples are the chapter's.
func TestExamples(t *testing.T) {
	k := made(t, 600, 12)
	all := k.p.DataCount
	k.begin()
	k.make(1, 1)
	k.free(all, 10)
	k.write(1, 0, text(1, 600))
	k.free(all-2, 10)
	k.truncate(1, 6000)
	k.free(all-13, 10)
	k.commit()
	k.holds(1, append(text(1, 600), make([]byte, 5400)...))
}

// TestFormat: the inode 0 is an empty directory, and nothing else is there, with any number of inodes; one transaction does it, the maps' Format beside.
func TestFormat(t *testing.T) {
	for _, inodes := range []int{1, 2, 7, 8, 9, 12, 64, 100, 480, 481, 1000, 4095, 4096} {
		k := made(t, 1500, inodes)
		k.stat(0, 2, 0)
		k.holds(0, nil)
		k.free(k.p.DataCount, inodes-1)
		for i := 1; i < inodes; i++ {
			k.none(i)
		}
		for _, i := range []int{-1, inodes, inodes + 1, math.MinInt, math.MaxInt} {
			k.none(i)
		}
	}
}

// smear lays other bytes into all blocks of the table, as a use ahead would have left them.
func (k *kit) smear(like func(at int) byte) {
	k.t.Helper()
	for b := k.p.Table; b < k.p.Data; {
		k.begin()
		for range 50 {
			if b == k.p.Data {
				break
			}
			one := make([]byte, api.Block)
			for at := range one {
				one[at] = like(at)
			}
			k.must("cache.Write", k.c.Write(b, one), api.OK)
			b++
		}
		k.commit()
	}
}

// TestFormatOverOtherBytes: what the table holds, and which inodes were there, does not matter.
func TestFormatOverOtherBytes(t *testing.T) {
	bytes := []func(int) byte{
		func(int) byte { return 255 },
		func(int) byte { return 1 },
		func(at int) byte { return byte(at) },
		func(at int) byte { return [4]byte{1, 0, 0, 0}[at%4] },
		func(at int) byte { return [4]byte{2, 1, 0, 0}[at%4] },
	}
	for n, like := range bytes {
		for _, inodes := range []int{1, 8, 60, 600, 4096} {
			k := bare(t, 1200, inodes)
			k.smear(like)
			k.begin()
			if n%2 == 0 {
				k.must("alloc.Format()", k.a.Format(), api.OK)
				k.must("P8.1: Format()", k.s.Format(), api.OK)
			} else {
				k.must("P8.1: Format()", k.s.Format(), api.OK)
				k.must("alloc.Format()", k.a.Format(), api.OK)
			}
			k.commit()
			k.stat(0, 2, 0)
			for i := 1; i < inodes; i++ {
				k.none(i)
			}
			k.free(k.p.DataCount, inodes-1)
			k.begin()
			for i := 1; i < min(inodes, 20); i++ {
				k.make(1+i%2, i)
				k.stat(i, 1+i%2, 0)
				k.holds(i, nil)
				k.write(i, 0, text(i, 100))
				k.holds(i, text(i, 100))
			}
			k.commit()
		}
	}
}

// TestFormatAgain: of a Store that has files nothing is there any more, but the empty root.
func TestFormatAgain(t *testing.T) {
	k := made(t, 600, 12)
	k.begin()
	for i := 1; i < 12; i++ {
		k.make(1, i)
		k.write(i, 0, text(i, 700))
	}
	k.write(0, 0, text(0, 700))
	k.commit()
	kept := k.same()
	k.begin()
	k.must("P8.1: Format()", k.s.Format(), api.OK)
	k.stat(0, 2, 0)
	for i := 1; i < 12; i++ {
		k.none(i)
	}
	k.abort()
	kept("a Format that is aborted")
	k.holds(0, text(0, 700))
	k.holds(11, text(11, 700))

	k.begin()
	k.must("P8.1: Format()", k.s.Format(), api.OK)
	k.commit()
	k.stat(0, 2, 0)
	k.holds(0, nil)
	for i := 1; i < 12; i++ {
		k.none(i)
	}
	k.step(func() { k.make(2, 1) })
	k.stat(1, 2, 0)
}

// TestFormatAlone: on maps that nobody formatted the root is no inode that a Make would make.
func TestFormatAlone(t *testing.T) {
	k := bare(t, 600, 12)
	for i := -1; i < 14; i++ {
		k.none(i)
	}
	k.step(func() { k.must("P8.1: Format()", k.s.Format(), api.OK) })
	k.stat(0, 2, 0)
	for i := 1; i < 12; i++ {
		k.none(i)
	}
	k.step(func() { k.make(1, 1) })
	k.stat(0, 2, 0)
	k.stat(1, 1, 0)
}

// TestMake: the least one that is free, empty, of that kind; until none is free.
func TestMake(t *testing.T) {
	for _, inodes := range []int{1, 2, 8, 9, 12, 17} {
		k := made(t, 600, inodes)
		k.begin()
		for i := 1; i < inodes; i++ {
			k.make(1+i%2, i)
			k.free(k.p.DataCount, inodes-1-i)
			k.stat(i, 1+i%2, 0)
			k.holds(i, nil)
			if i+1 < inodes {
				k.none(i + 1)
			}
		}
		unchanged := k.same()
		k.noMake(1, api.ErrFull)
		k.noMake(2, api.ErrFull)
		k.noMake(0, api.ErrArg)
		k.noMake(3, api.ErrArg)
		unchanged("a Make that is refused")
		k.commit()
		for i := 1; i < inodes; i++ {
			k.stat(i, 1+i%2, 0)
		}
		for _, i := range []int{inodes - 1, 1, inodes / 2} {
			if i == 0 || i >= inodes {
				continue
			}
			k.begin()
			k.drop(i)
			k.none(i)
			k.make(2-i%2, i)
			k.stat(i, 2-i%2, 0)
			k.noMake(1, api.ErrFull)
			k.commit()
			k.begin()
			k.drop(i)
			k.make(1+i%2, i)
			k.commit()
		}
		k.stat(0, 2, 0)
	}
}

// TestMakeAll: as many as there may be.
func TestMakeAll(t *testing.T) {
	k := made(t, 1200, 4096)
	for i := 1; i < 4096; {
		k.begin()
		for n := 0; n < 5 && i < 4096; n++ {
			k.make(1+i%3%2, i)
			i++
		}
		k.commit()
	}
	k.step(func() { k.noMake(1, api.ErrFull) })
	k.stat(0, 2, 0)
	for i := 1; i < 4096; i++ {
		k.stat(i, 1+i%3%2, 0)
	}
	k.none(4096)
	// All of them are dropped in one transaction, since that does not count.
	k.begin()
	for i := 1; i < 4096; i++ {
		k.drop(i)
	}
	k.commit()
	k.free(k.p.DataCount, 4095)
	for i := 1; i < 4096; i++ {
		k.none(i)
	}
}

// TestMakeOfNoKind: ErrArg, and nothing has happened.
func TestMakeOfNoKind(t *testing.T) {
	k := made(t, 600, 12)
	k.begin()
	unchanged := k.same()
	for _, kind := range []int{0, 3, 4, -1, -2, 255, 256, 257, 258, 1 << 16, 1<<16 + 1, 1 << 32, 1<<32 + 1, 1<<32 + 2, math.MinInt, math.MinInt + 1, math.MaxInt} {
		k.noMake(kind, api.ErrArg)
	}
	unchanged("a Make of no kind")
	k.make(1, 1)
}

// TestMakeAnew: an inode that was dropped is made anew, empty, whatever it was; and has nothing of what it was.
func TestMakeAnew(t *testing.T) {
	k := made(t, 600, 12)
	for _, size := range []int{0, 1, 511, 512, 5120, 5121, 9000} {
		for kind := 1; kind <= 2; kind++ {
			k.begin()
			k.make(kind, 1)
			k.write(1, 0, text(size, size))
			k.commit()
			k.begin()
			k.drop(1)
			k.make(3-kind, 1)
			k.stat(1, 3-kind, 0)
			k.holds(1, nil)
			k.free(k.p.DataCount, 10)
			k.truncate(1, 6000)
			k.holds(1, make([]byte, 6000))
			k.commit()
			k.holds(1, make([]byte, 6000))
			k.step(func() { k.drop(1) })
		}
	}
}

// TestDrop: all its blocks are free, and it too; of files of all sizes, whether the transaction wrote them or one ahead.
func TestDrop(t *testing.T) {
	k := made(t, 600, 12)
	all := k.p.DataCount
	sizes := []int{0, 1, 511, 512, 513, 5119, 5120, 5121, 5632, 5633, 10000, 20000}
	for _, size := range sizes {
		k.begin()
		k.make(1, 1)
		k.make(2, 2)
		k.write(1, 0, text(1, size))
		k.write(2, 0, text(2, 100))
		k.free(all-has(size)-1, 9)
		k.drop(1)
		k.none(1)
		k.free(all-1, 10)
		k.holds(2, text(2, 100))
		k.abort()
		k.free(all, 11)

		k.begin()
		k.make(1, 1)
		k.make(2, 2)
		k.write(2, 0, text(2, 100))
		k.write(1, 0, text(1, size))
		k.commit()
		k.begin()
		k.drop(1)
		k.none(1)
		k.free(all-1, 10)
		k.abort()
		k.holds(1, text(1, size))
		k.free(all-has(size)-1, 9)
		k.begin()
		k.drop(1)
		k.commit()
		k.none(1)
		k.free(all-1, 10)
		k.holds(2, text(2, 100))
		k.step(func() { k.drop(2) })
		k.free(all, 11)
	}
}

// TestDropRefused: ErrNone of what is none, ErrArg of the inode 0, and nothing has happened.
func TestDropRefused(t *testing.T) {
	k := made(t, 600, 12)
	k.begin()
	k.make(1, 1)
	k.make(1, 2)
	k.write(1, 0, text(1, 6000))
	k.write(0, 0, text(0, 600))
	k.drop(2)
	unchanged := k.same()
	k.must("P8.1: Drop(0)", k.s.Drop(0), api.ErrArg)
	k.must("P8.1: Drop of one that was dropped", k.s.Drop(2), api.ErrNone)
	for i := 3; i < 12; i++ {
		k.must("P8.1: Drop of one that was never made", k.s.Drop(i), api.ErrNone)
	}
	for _, i := range noNumbers() {
		k.must("P8.1: Drop of what is none", k.s.Drop(i), api.ErrNone)
	}
	unchanged("a Drop that is refused")
	k.commit()
	k.holds(1, text(1, 6000))
	k.holds(0, text(0, 600))

	// Of a Store that nobody formatted the inode 0 is none, too.
	k = bare(t, 600, 12)
	k.begin()
	k.must("P8.1: Drop(0) of no root", k.s.Drop(0), api.ErrNone)
}

// TestStat: kind and size, as they change.
func TestStat(t *testing.T) {
	k := made(t, 600, 12)
	k.begin()
	k.make(1, 1)
	k.make(2, 2)
	for _, size := range []int{1, 511, 512, 513, 5120, 5121, 5, 0, 6000, 0} {
		k.truncate(1, size)
		k.stat(1, 1, size)
		k.stat(2, 2, 0)
	}
	k.write(2, 0, text(2, 64))
	k.stat(2, 2, 64)
	k.write(2, 10, text(2, 54))
	k.stat(2, 2, 64)
	k.write(2, 10, text(2, 55))
	k.stat(2, 2, 65)
	k.write(2, 0, nil)
	k.stat(2, 2, 65)
	k.commit()
	k.stat(0, 2, 0)
	k.stat(1, 1, 0)
	k.stat(2, 2, 65)
	for _, i := range append(noNumbers(), 3, 4, 11) {
		k.none(i)
	}
}
