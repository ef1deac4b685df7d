package inode_test

import (
	"maps"
	"slices"
	"testing"

	"bollard/api"
)

// crowd makes all files that there are inodes for, but the last some, each with bytes of its own; of all of them the sizes are told by size.
func (k *kit) crowd(some int, size func(i int) int) map[int][]byte {
	k.t.Helper()
	files := map[int][]byte{}
	for i := 1; i < k.p.Inodes-some; {
		k.begin()
		for n := 0; n < 5 && i < k.p.Inodes-some; n++ {
			k.make(1, i)
			files[i] = text(i, size(i))
			if size(i) <= 2000 {
				k.write(i, 0, files[i])
			}
			i++
		}
		k.commit()
	}
	for _, i := range slices.Sorted(maps.Keys(files)) {
		if size(i) > 2000 {
			k.grow(i, files[i])
		}
	}
	return files
}

// all holds all files, and what is none, against plain bytes.
func (k *kit) all(files map[int][]byte) {
	k.t.Helper()
	for i := 1; i < k.p.Inodes; i++ {
		if b, ok := files[i]; ok {
			k.read(i, 0, api.MaxFile, b)
		} else {
			k.none(i)
		}
	}
}

// TestShrinksDoNotCount: of any number of inodes all files shrink in one transaction, whatever their sizes; what an Abort undoes is as it was.
func TestShrinksDoNotCount(t *testing.T) {
	for _, inodes := range []int{2, 7, 8, 9, 16, 17, 24, 25, 100, 240, 241, 300, 480, 481, 512, 1000, 4096} {
		k := made(t, 6000, inodes)
		files := k.crowd(0, func(i int) int { return 1 + i%511 })
		before := k.blocks()
		for _, commits := range []bool{false, true} {
			k.begin()
			now := map[int][]byte{}
			gone := 0
			for i, b := range files {
				size := i % len(b)
				k.truncate(i, size)
				now[i] = b[:size]
				if size == 0 {
					gone++
				}
			}
			if got := k.blocks(); got != before+gone {
				t.Fatalf("P8.3: %d blocks are free, want %d", got, before+gone)
			}
			if !commits {
				k.all(now)
				k.abort()
				k.all(files)
				continue
			}
			k.commit()
			on(t, k.d.Crash(nil), k.p).all(now)
		}
	}
}

// greatest is a kit of as many blocks and inodes as there may be, all of which but one are files: their blocks lie in all parts of the map of data blocks.
func greatest(t *testing.T, some int, size func(i int) int) (*kit, map[int][]byte) {
	t.Helper()
	k := wide(t, some)
	return k, k.crowd(1, size)
}

// TestWorstShrinks: on the greatest device all files shrink at once, so that all blocks of the maps and all sizes are written, beside 24 blocks of five inodes, one of which is made: not refused, whichever come first.
func TestWorstShrinks(t *testing.T) {
	far := []int{15, 1000, 2040, 4000}
	size := func(i int) int {
		switch {
		case i == 3000:
			return 70000 // its last binary digit is the one that numbers of two bytes lack
		case slices.Contains(far, i):
			return 512
		}
		return 1 + i%512
	}
	k, files := greatest(t, 266, size)
	for _, last := range []bool{false, true} {
		now := maps.Clone(files)
		shrink := func() {
			for i := range files {
				if !slices.Contains(far, i) {
					// Blocks become free in all parts of the map.
					now[i] = files[i][:i%len(files[i])*(i%3)/2]
					k.truncate(i, len(now[i]))
				}
			}
		}
		k.begin()
		if !last {
			shrink()
		}
		k.make(1, 4095)
		for n, i := range append(slices.Clone(far), 4095) {
			now[i] = append(slices.Clone(files[i]), text(n, 512*(5-n/4))...)
			k.write(i, len(files[i]), now[i][len(files[i]):])
		}
		if last {
			shrink()
		}
		if n := k.c.Dirty(); n != 60 {
			t.Errorf("the transaction has %d blocks: it is not the worst one", n)
		}
		if last {
			k.commit()
			on(t, k.d.Crash(nil), k.p).all(now)
		} else {
			k.all(now)
			k.abort()
			k.all(files)
		}
	}
}

// TestShrinksForEver: transactions as great as P8.4 allows follow each other, each one with other inodes among the five, while all others shrink, and some are dropped and made again: none is refused.
func TestShrinksForEver(t *testing.T) {
	for seed, inodes := range []int{20, 300, 1500} {
		k := made(t, 9000, inodes)
		files := k.crowd(1, func(i int) int { return 400 + i%100 })
		x := dice(seed)
		for round := range 60 {
			k.begin()
			five := map[int]struct{}{}
			for len(five) < 4 {
				five[1+x.below(inodes-2)] = struct{}{}
			}
			for i := range five {
				k.truncate(i, 0)
				files[i] = text(round+i, 512*(1+x.below(5)))
				k.write(i, 0, files[i])
			}
			for i, b := range files {
				if _, ok := five[i]; !ok && len(b) > 0 && x.below(3) > 0 {
					files[i] = b[:len(b)-1-x.below(min(len(b), 7))]
					k.truncate(i, len(files[i]))
				}
			}
			i := 1 + x.below(inodes-2)
			if _, ok := five[i]; !ok {
				k.drop(i)
				k.make(1, i)
				files[i] = text(round, 512*4)
				k.write(i, 0, files[i])
			}
			k.commit()
			if round%20 == 19 {
				k.all(files)
				k = on(t, k.d.Crash(nil), k.p)
			}
		}
		k.all(files)
	}
}

// TestMadeAndDropped: what is dropped does not count, also of inodes that the transaction made: their rows leave their places to others.
func TestMadeAndDropped(t *testing.T) {
	for _, inodes := range []int{8, 40, 700} {
		k := made(t, 6000, inodes)
		files := k.crowd(0, func(i int) int { return 1 + i%3 })
		k.begin()
		for i := inodes - 1; i > inodes/3; i-- {
			k.drop(i)
			k.make(2, i)
			k.write(i, 0, text(i, 600))
			k.stat(i, 2, 600)
			k.drop(i)
			k.make(1, i)
			k.holds(i, nil)
			k.drop(i)
			delete(files, i)
		}
		if n := k.c.Dirty(); n > 10 {
			t.Errorf("P8.4: of what was dropped %d blocks are left in the transaction", n)
		}
		k.commit()
		k.all(files)
	}
}

// TestSizesOfAll: each inode has a size and a kind of its own, at all edges, in tables of any number of blocks.
func TestSizesOfAll(t *testing.T) {
	for _, inodes := range []int{1, 2, 7, 8, 9, 15, 16, 17, 23, 24, 25, 31, 32, 33, 40, 48, 49, 64, 65} {
		k := made(t, 5500, inodes)
		sizes := []int{0, 1, 255, 256, 511, 512, 5120, 5121, 65535, 65536, 65537, 70656}
		want := map[int]api.Stat{0: {Kind: 2, Size: 0}}
		for i := 1; i < inodes; i++ {
			k.step(func() { k.make(1+i%2, i) })
			size := sizes[i%len(sizes)]
			for at := 0; at < size; at += 10000 {
				k.step(func() { k.truncate(i, min(size, at+10000)) })
			}
			want[i] = api.Stat{Kind: 1 + i%2, Size: size}
		}
		check := func(what string) {
			t.Helper()
			for i := range inodes {
				if st, e := k.s.Stat(i); e != api.OK || st != want[i] {
					t.Fatalf("P8.1: of %d inodes, %s: Stat(%d) = %v %d, want %v", inodes, what, i, st, e, want[i])
				}
			}
		}
		check("at first")
		k.begin()
		for i := 1; i < inodes; i++ {
			size := max(0, want[i].Size-1)
			k.truncate(i, size)
			want[i] = api.Stat{Kind: want[i].Kind, Size: size}
			check("all shrink by one")
		}
		k.commit()
		check("behind Commit")
		k.begin()
		for i := 1; i < inodes; i++ {
			k.truncate(i, want[i].Size/2)
		}
		k.abort()
		check("behind Abort")
	}
}

// TestFormatInATransaction: a Format takes little room in a transaction, whatever was there: 24 blocks of five inodes have room beside.
func TestFormatInATransaction(t *testing.T) {
	for _, inodes := range []int{8, 300, 4096} {
		k := made(t, 65536, inodes)
		k.crowd(0, func(i int) int { return i % 2 })
		for range 3 {
			k.begin()
			k.must("alloc.Format()", k.a.Format(), api.OK)
			k.must("P8.1: Format()", k.s.Format(), api.OK)
			for i := 1; i <= 5; i++ {
				k.make(1, i)
				k.write(i, 0, text(i, 512*4+i%2))
			}
			k.none(6)
			k.none(7)
			k.commit()
			k.none(6)
			k.holds(5, text(5, 512*4+1))
			k.stat(0, 2, 0)
			k.free(k.p.DataCount-23, inodes-6)
			for i := 6; i < min(inodes, 200); i++ {
				k.step(func() { k.make(1+i%2, i) })
				k.stat(i, 1+i%2, 0)
			}
		}
	}
}

// TestRowsTogether: of five inodes, wherever they are, what the table has of them beside their sizes takes two blocks of a transaction, also if it is the same as ahead.
func TestRowsTogether(t *testing.T) {
	k := made(t, 2000, 4096)
	k.crowd(0, func(int) int { return 0 })
	x := dice(3)
	for round := range 300 {
		k.begin()
		five := map[int]struct{}{}
		for len(five) < 5 {
			five[1+x.below(4095)] = struct{}{}
		}
		for _, i := range slices.Sorted(maps.Keys(five)) {
			k.drop(i)
			k.make(1, i)
		}
		// The third one is a block of the map of inodes.
		if n := k.c.Dirty(); n > 3 {
			t.Fatalf("P8.4: in round %d five inodes have %d blocks of the transaction", round, n)
		}
		k.commit()
	}
}
