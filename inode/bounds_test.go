package inode_test

import (
	"testing"

	"bollard/api"
	"bollard/bits"
)

// scatter lets free blocks lie far from each other: of each block of the map of data blocks the last some bits alone are free, and no other ones.
func (k *kit) scatter(some int) {
	k.t.Helper()
	k.begin()
	for b := k.p.BlockMap; b < k.p.Table; b++ {
		one := make([]byte, api.Block)
		first := (b - k.p.BlockMap) * 4096
		last := min(4096, k.p.DataCount-first)
		for bit := range last - some {
			one = bits.Set(one, bit, true)
		}
		k.must("cache.Write", k.c.Write(b, one), api.OK)
	}
	k.commit()
}

// wide is a kit with as many blocks and inodes as there may be, of which free ones lie far from each other.
func wide(t *testing.T, some int) *kit {
	t.Helper()
	k := made(t, 65536, 4096)
	k.scatter(some)
	return k
}

// farFiles makes files that lie in blocks of the table of their own: 8, 16, .., each with bytes, so that the last block is not full and has old bytes behind its end.
func (k *kit) farFiles(n, size int) (l []int) {
	k.t.Helper()
	for i := 1; len(l) < n; i++ {
		k.step(func() { k.make(1, i) })
		if i%8 != 0 {
			continue
		}
		l = append(l, i)
		k.grow(i, text(i, size+300))
		k.step(func() { k.truncate(i, size) })
	}
	return l
}

// TestWorstTransaction: 24 blocks, each in another part of the map, of five inodes in blocks of the table of their own, which all have a block of numbers that is written anew, and a last block that is not full: not refused.
func TestWorstTransaction(t *testing.T) {
	k := wide(t, 6)
	files := k.farFiles(5, 5300)
	want := map[int][]byte{}
	for _, i := range files {
		want[i] = text(i, 5600)[:5300]
	}
	// 24 blocks are free, in all 16 blocks of the map.
	k.step(func() {
		k.takeAllBut(0)
		for n := range 24 {
			k.must("GiveBlock", k.a.GiveBlock(k.p.Data+n%16*4096+n), api.OK)
		}
	})
	k.begin()
	for n, i := range files {
		gains := 5
		if n == 4 {
			gains = 4
		}
		size := 5632 + 512*gains
		k.truncate(i, size)
		want[i] = cut(want[i], size)
	}
	k.free(0, 4095-40)
	k.make(1, 41)
	for i, b := range want {
		k.holds(i, b)
	}
	if n := k.c.Dirty(); n < 50 {
		t.Errorf("the transaction has %d blocks: it is none of the worst", n)
	}
	k.commit()
	for i, b := range want {
		k.holds(i, b)
	}
}

// TestDropsDoNotCount: beside 24 blocks and five inodes any number of files shrinks, and is dropped.
func TestDropsDoNotCount(t *testing.T) {
	k := wide(t, 60)
	files := k.farFiles(5, 5300)
	var more []int
	for i := 41; i <= 160; i++ {
		k.step(func() { k.make(1, i) })
		if i%8 == 1 {
			k.grow(i, text(i, 8000))
			more = append(more, i)
		}
	}
	before := k.blocks()
	k.begin()
	for n, i := range files {
		k.truncate(i, 5632+512*(5-n/4))
	}
	for i := 41; i <= 160; i++ {
		if i%8 != 1 || i > 50 {
			k.drop(i)
		}
	}
	for _, size := range []int{7000, 6001, 5121, 5120, 4700, 513, 512, 511, 1, 0} {
		k.truncate(41, size)
	}
	k.commit()
	if got, want := k.blocks(), before-24+17*(len(more)-1); got != want {
		t.Errorf("P8.1: %d blocks are free, want %d", got, want)
	}
	k.holds(41, nil)
	k.holds(49, text(49, 8000))
	k.none(57)
	for n, i := range files {
		k.holds(i, cut(text(i, 5600)[:5300], 5632+512*(5-n/4)))
	}
}

// TestManyShrinks: a file that shrinks by one block after the other, its last block never full, is not refused; nor if it grows a little each time.
func TestManyShrinks(t *testing.T) {
	for _, grows := range []int{0, 1, 100} {
		k, b := fileOf(t, 70656)
		k.begin()
		for size := 70656 - 200; size > 0; size -= 512 {
			k.truncate(1, size)
			b = b[:size]
			if grows > 0 {
				k.truncate(1, size+grows)
				b = cut(b, size+grows)
			}
		}
		k.commit()
		k.holds(1, b)
		k.free(k.p.DataCount-1, 10)
	}
}

// TestWrittenAndDropped: what was written and is dropped again does not count, wherever it lay.
func TestWrittenAndDropped(t *testing.T) {
	k := made(t, 900, 64)
	// Files of one block that lie in front, to be dropped from behind, so that each time other blocks are the least.
	for i := 1; i < 64; i++ {
		k.step(func() {
			k.make(1, i)
			k.write(i, 0, text(i, 512*5))
		})
	}
	k.begin()
	for i := 62; i > 1; i-- {
		k.drop(i)
		k.truncate(63, 0)
		k.write(63, 0, text(i, 512*4+5))
		k.holds(63, text(i, 512*4+5))
	}
	k.holds(1, text(1, 512*5))
	k.commit()
	k.holds(63, text(2, 512*4+5))
	k.holds(1, text(1, 512*5))
	k.free(k.p.DataCount-10, 61)
}

// TestTooGreat: ErrBig, where a transaction would come to more than 60 blocks; an Abort undoes all; just below it is done.
func TestTooGreat(t *testing.T) {
	k, b := fileOf(t, 6000)
	for _, n := range []int{58, 59, 60, 61, 100, 126} {
		for _, call := range []func() api.Errno{
			func() api.Errno { return k.s.Write(1, 6000, text(1, n*512)) },
			func() api.Errno { return k.s.Truncate(1, 6144+n*512) },
			func() api.Errno { return k.s.Write(1, 0, text(1, 6144+n*512)) },
		} {
			kept := k.same()
			k.begin()
			k.make(1, 2)
			k.must("P8.4: a call that the transaction has no room for", call(), api.ErrBig)
			k.abort()
			kept("a transaction that was aborted")
			k.holds(1, b)
			k.none(2)
		}
	}
	for _, n := range []int{25, 40, 50} {
		k.begin()
		k.write(1, 6000, text(1, n*512))
		k.holds(1, append(text(7, 6000), text(1, n*512)...))
		k.abort()
		k.begin()
		k.truncate(1, 6000+n*512)
		k.abort()
	}
	k.holds(1, b)
}

// TestFullTransaction: where the transaction has 60 blocks already, all that would write another one is ErrBig, and is undone by an Abort.
func TestFullTransaction(t *testing.T) {
	k, b := fileOf(t, 6000)
	k.step(func() { k.write(0, 0, text(0, 100)) })
	for _, call := range []func() api.Errno{
		func() api.Errno { return k.s.Format() },
		func() api.Errno { _, e := k.s.Make(1); return e },
		func() api.Errno { return k.s.Write(1, 0, []byte{1}) },
		func() api.Errno { return k.s.Write(1, 6000, []byte{1}) },
		func() api.Errno { return k.s.Write(1, 6144-144, text(1, 500)) },
		func() api.Errno { return k.s.Truncate(1, 5999) },
		func() api.Errno { return k.s.Truncate(1, 100) },
		func() api.Errno { return k.s.Truncate(1, 6001) },
		func() api.Errno { return k.s.Truncate(1, 9000) },
		func() api.Errno { return k.s.Drop(1) },
	} {
		kept := k.same()
		k.begin()
		k.fillUp(60)
		k.must("P8.4: a call in a transaction that is full", call(), api.ErrBig)
		k.abort()
		kept("a transaction that was aborted")
		k.holds(1, b)
		k.holds(0, text(0, 100))
	}
	// What writes nothing is done.
	k.begin()
	k.fillUp(60)
	k.write(1, 3, nil)
	k.truncate(1, 6000)
	k.holds(1, b)
	k.abort()
}

// count is what P8.4 counts of a transaction.
type count struct {
	blocks map[[2]int]struct{} // the inode, which of its blocks; -1 is that of numbers
	inodes map[int]struct{}
}

func newCount() count {
	return count{map[[2]int]struct{}{}, map[int]struct{}{}}
}

// touch counts bytes that are written, and what a file that grows comes to have.
func (c count) touch(i, at, end, old, size int) {
	c.inodes[i] = struct{}{}
	for b := at / 512; b*512 < end; b++ {
		c.blocks[[2]int{i, b}] = struct{}{}
	}
	for b := has(old); b < has(size); b++ {
		c.blocks[[2]int{i, b}] = struct{}{}
	}
	if size > 5120 && old <= 5120 {
		c.blocks[[2]int{i, -1}] = struct{}{}
	}
}

// within is whether a transaction is within P8.4's bounds.
func (c count) within() bool {
	return len(c.blocks) <= 24 && len(c.inodes) <= 5
}

// with is whether it were, with a change beside.
func (c count) with(i, at, end, old, size int) bool {
	d := newCount()
	for b := range c.blocks {
		d.blocks[b] = struct{}{}
	}
	for n := range c.inodes {
		d.inodes[n] = struct{}{}
	}
	d.touch(i, at, end, old, size)
	return d.within()
}

// TestWithinBounds: transactions of writes and truncates up to the bounds, with shrinks and drops among them, on a device whose free blocks lie far from each other, are never refused for their size.
func TestWithinBounds(t *testing.T) {
	for seed := range 6 {
		k := wide(t, 24+seed*4)
		x := dice(seed + 1)
		files := map[int][]byte{}
		for _, i := range k.farFiles(12, 5300) {
			files[i] = text(i, 5600)[:5300]
		}
		for range 25 {
			k.begin()
			c := newCount()
			for range 40 {
				i := 8 * (1 + x.below(12))
				b := files[i]
				if len(c.inodes) == 5 && x.below(8) > 0 {
					i = leastOf(c.inodes, x.below(5))
					b = files[i]
				}
				at, n := x.below(len(b)+1), x.below(3000)
				if x.below(3) == 0 {
					at = len(b)
				}
				switch x.below(3) {
				case 0:
					end := at + n
					if c.with(i, at, end, len(b), max(len(b), end)) {
						c.touch(i, at, end, len(b), max(len(b), end))
						k.write(i, at, text(n, n))
						files[i] = lay(b, at, text(n, n))
					}
				case 1:
					size := len(b) + n
					if c.with(i, size, size, len(b), size) {
						c.touch(i, size, size, len(b), size)
						k.truncate(i, size)
						files[i] = cut(b, size)
					}
				case 2:
					// Shrinks do not count, of whichever inodes.
					i = 8 * (1 + x.below(12))
					b = files[i]
					at = x.below(len(b) + 1)
					if at > len(b)-2000 {
						k.truncate(i, at)
						files[i] = cut(b, at)
					}
				}
			}
			k.commit()
			for i, b := range files {
				k.holds(i, b)
				if len(b) > 12000 {
					k.step(func() { k.truncate(i, 5000) })
					files[i] = cut(b, 5000)
				}
			}
		}
	}
}

// leastOf is the n-th of a set, by rising numbers.
func leastOf(set map[int]struct{}, n int) int {
	for i := 0; ; i++ {
		if _, ok := set[i]; ok {
			if n == 0 {
				return i
			}
			n--
		}
	}
}
