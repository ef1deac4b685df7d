package inode_test

import (
	"math"
	"testing"

	"bollard/alloc"
	"bollard/api"
	"bollard/bits"
	"bollard/cache"
	"bollard/inode"
	"bollard/journal"
)

// TestFull: ErrFull just where the blocks that are free do not suffice; with one more it is done.
func TestFull(t *testing.T) {
	sizes := []int{0, 1, 511, 512, 513, 5000, 5119, 5120, 5121, 5632, 5633}
	for _, size := range sizes {
		for _, to := range append(sizes, 1024, 1025, 6144, 6145, 12000) {
			lacks := has(to) - has(size)
			if lacks <= 0 {
				continue
			}
			k, b := fileOf(t, size)
			k.begin()
			k.takeAllBut(lacks - 1)
			unchanged := k.same()
			k.must("P8.3: Write without room", k.s.Write(1, size, make([]byte, to-size)), api.ErrFull)
			k.must("P8.3: Write over all without room", k.s.Write(1, 0, make([]byte, to)), api.ErrFull)
			k.must("P8.3: Truncate without room", k.s.Truncate(1, to), api.ErrFull)
			unchanged("a call with ErrFull")
			k.holds(1, b)
			if lacks > 1 {
				// What needs one block less is done, with the last one that is free.
				less := (has(size)+lacks-1)*512 - 512*bool01(has(size)+lacks-1 > 10)
				if has(less) == has(size)+lacks-1 {
					k.truncate(1, less)
					k.free(0, 10)
				}
			}
			k.abort()
			k.begin()
			k.takeAllBut(lacks)
			k.truncate(1, to)
			k.holds(1, cut(b, to))
			k.free(0, 10)
			k.truncate(1, size)
			k.free(lacks, 10)
			more := text(9, to-size)
			k.write(1, size, more)
			k.holds(1, lay(b, size, more))
			k.free(0, 10)
			// What needs no further block is done, though none is free.
			k.write(1, 0, more)
			k.write(1, to, nil)
			k.truncate(1, to-to%512)
			k.abort()
		}
	}
}

// bool01 is a truth as a number.
func bool01(b bool) int {
	if b {
		return 1
	}
	return 0
}

// TestFullDevice: all blocks of a small device are a file's, or those of two.
func TestFullDevice(t *testing.T) {
	k := made(t, 265, 8)
	k.begin()
	k.make(1, 1)
	k.make(1, 2)
	k.free(16, 5)
	unchanged := k.same()
	k.must("P8.3: Truncate to 16 blocks and one of numbers", k.s.Truncate(1, 16*512), api.ErrFull)
	k.must("P8.3: Truncate to 16 blocks and one of numbers", k.s.Truncate(1, 15*512+1), api.ErrFull)
	k.must("P8.3: Write of more than all", k.s.Write(1, 0, make([]byte, 70656)), api.ErrFull)
	k.must("P8.3: Truncate to more than all", k.s.Truncate(1, 70656), api.ErrFull)
	unchanged("a call with ErrFull")
	k.write(1, 0, text(1, 15*512))
	k.free(0, 5)
	k.must("P8.3: Write of one byte", k.s.Write(2, 0, []byte{1}), api.ErrFull)
	k.must("P8.3: Truncate to one byte", k.s.Truncate(2, 1), api.ErrFull)
	k.write(2, 0, nil)
	k.truncate(2, 0)
	k.truncate(1, 15*512-1)
	k.free(0, 5)
	k.must("P8.3: Write of one byte", k.s.Write(2, 0, []byte{1}), api.ErrFull)
	k.truncate(1, 14*512)
	k.free(1, 5)
	k.write(2, 0, text(2, 512))
	k.holds(2, text(2, 512))
	k.free(0, 5)
	// A block of numbers that is not needed any more is one that another file may have.
	k.truncate(1, 10*512)
	k.free(5, 5)
	k.must("P8.3: Write of six blocks more", k.s.Write(2, 512, make([]byte, 5*512+1)), api.ErrFull)
	k.write(2, 512, text(3, 5*512))
	k.free(0, 5)
	k.must("P8.3: Write of the eleventh block", k.s.Write(1, 5120, []byte{1}), api.ErrFull)
	k.commit()
	k.holds(1, text(1, 15*512)[:5120])
	k.holds(2, append(text(2, 512), text(3, 5*512)...))
	// The eleventh block needs one of numbers beside: with one free there is no room, with two there is.
	k.begin()
	k.truncate(2, 5*512)
	k.must("P8.3: Write of the eleventh block", k.s.Write(1, 5120, []byte{1}), api.ErrFull)
	k.must("P8.3: Truncate to the eleventh block", k.s.Truncate(1, 5121), api.ErrFull)
	k.truncate(2, 4*512)
	k.write(1, 5120, []byte{1})
	k.free(0, 5)
	k.commit()
}

// TestWhichErrorComesFirst: where several are so, the first that the promise names.
func TestWhichErrorComesFirst(t *testing.T) {
	k := made(t, 400, 3)
	k.step(func() {
		k.make(1, 1)
		k.write(1, 0, text(1, 600))
		k.takeAllBut(0)
	})
	big := make([]byte, 70657)
	k.begin()
	k.must("P8.3: Write: ErrNone ahead of ErrArg, ErrBig, ErrFull", k.s.Write(2, -1, big), api.ErrNone)
	k.must("P8.3: Write: ErrArg ahead of ErrBig, ErrFull", k.s.Write(1, 601, big), api.ErrArg)
	k.must("P8.3: Write: ErrBig ahead of ErrFull", k.s.Write(1, 600, big), api.ErrBig)
	k.must("P8.3: Write: ErrBig ahead of ErrFull", k.s.Write(1, 600, big[:70057]), api.ErrBig)
	k.must("P8.3: Write: ErrFull", k.s.Write(1, 600, big[:70056]), api.ErrFull)
	k.must("P8.3: Truncate: ErrNone ahead of ErrArg", k.s.Truncate(2, -1), api.ErrNone)
	k.must("P8.3: Truncate: ErrNone ahead of ErrBig", k.s.Truncate(2, 70657), api.ErrNone)
	k.must("P8.3: Truncate: ErrArg", k.s.Truncate(1, -1), api.ErrArg)
	k.must("P8.3: Truncate: ErrBig ahead of ErrFull", k.s.Truncate(1, 70657), api.ErrBig)
	k.must("P8.3: Truncate: ErrFull", k.s.Truncate(1, 70656), api.ErrFull)
	k.noRead(2, -1, -1, api.ErrNone)
	k.noRead(1, -1, -1, api.ErrArg)
	k.make(1, 2)
	k.noMake(7, api.ErrArg)
	k.noMake(1, api.ErrFull)
	k.must("P8.1: Drop(0)", k.s.Drop(0), api.ErrArg)
	k.abort()

	// In a transaction that is full already these come ahead of its ErrBig, too.
	k.begin()
	k.fillUp(60)
	unchanged := k.same()
	k.must("P8.3: Write: ErrNone", k.s.Write(2, 0, big), api.ErrNone)
	k.must("P8.3: Write: ErrArg", k.s.Write(1, 601, big), api.ErrArg)
	k.must("P8.3: Write: ErrFull ahead of the transaction's ErrBig", k.s.Write(1, 600, big[:500]), api.ErrFull)
	k.must("P8.3: Truncate: ErrFull ahead of the transaction's ErrBig", k.s.Truncate(1, 1025), api.ErrFull)
	k.must("P8.3: Truncate: ErrArg", k.s.Truncate(1, -1), api.ErrArg)
	k.must("P8.1: Drop(0)", k.s.Drop(0), api.ErrArg)
	k.must("P8.1: Drop(2)", k.s.Drop(2), api.ErrNone)
	k.noMake(0, api.ErrArg)
	unchanged("a call that is refused")
	k.abort()
}

// fillUp lets the transaction have written so many blocks: the superblock and blocks that no file has. They hold other bytes now.
func (k *kit) fillUp(n int) {
	k.t.Helper()
	for b := k.p.Blocks - 1; k.c.Dirty() < n && b >= k.p.Data; b-- {
		k.must("cache.Write", k.c.Write(b, text(b, 512)), api.OK)
	}
	for b := api.Journal; k.c.Dirty() < n; b++ {
		one, _ := k.c.Read(b)
		k.must("cache.Write", k.c.Write(b, one), api.OK)
	}
}

// TestWithoutTransaction: every call that changes something is ErrState, ahead of all else; Stat and Read need none.
func TestWithoutTransaction(t *testing.T) {
	k, b := fileOf(t, 6000)
	check := func(what string) {
		t.Helper()
		unchanged := k.same()
		k.must("P8.1: "+what+": Format()", k.s.Format(), api.ErrState)
		for _, kind := range []int{0, 1, 2, 3, -1, math.MinInt, math.MaxInt} {
			k.noMake(kind, api.ErrState)
		}
		for _, i := range append(noNumbers(), 0, 1, 2, 11) {
			k.must("P8.1: "+what+": Drop", k.s.Drop(i), api.ErrState)
			for _, at := range []int{0, 1, 6000, 6001, 70657, -1, math.MinInt, math.MaxInt} {
				for _, n := range []int{0, 1, 80000} {
					k.must("P8.3: "+what+": Write", k.s.Write(i, at, make([]byte, n)), api.ErrState)
				}
				k.must("P8.3: "+what+": Truncate", k.s.Truncate(i, at), api.ErrState)
			}
		}
		unchanged(what)
		k.holds(1, b)
		k.stat(0, 2, 0)
		k.none(2)
		k.noRead(2, 0, 0, api.ErrNone)
		k.noRead(1, -1, 0, api.ErrArg)
	}
	check("behind Commit")
	k.begin()
	k.make(1, 2)
	k.drop(1)
	k.abort()
	check("behind Abort")
	k.begin()
	k.takeAllBut(0)
	for i := 2; i < 12; i++ {
		k.make(1, i)
	}
	for i := 2; i < 12; i++ {
		k.drop(i)
	}
	k.commit()
	check("with no block free")

	k = bare(t, 300, 8)
	k.must("P8.1: Format() at first", k.s.Format(), api.ErrState)
	k.noMake(1, api.ErrState)
	k.none(0)
}

// TestZero: a nil or zero Store is ErrState in all; one that was made on nothing that holds is refused and does not panic.
func TestZero(t *testing.T) {
	var none *inode.Store
	numbers := []int{0, 1, 2, -1, 512, 70657, math.MinInt, math.MaxInt}
	for _, z := range []*inode.Store{none, {}} {
		for _, x := range numbers {
			if i, e := z.Make(x); i != 0 || e != api.ErrState {
				t.Errorf("P8.5: Make(%d) = %d %d", x, i, e)
			}
			if st, e := z.Stat(x); st != (api.Stat{}) || e != api.ErrState {
				t.Errorf("P8.5: Stat(%d) = %v %d", x, st, e)
			}
			if e := z.Drop(x); e != api.ErrState {
				t.Errorf("P8.5: Drop(%d) = %d", x, e)
			}
			for _, y := range numbers {
				if b, e := z.Read(x, y, 5); len(b) != 0 || e != api.ErrState {
					t.Errorf("P8.5: Read(%d, %d, 5) = %v %d", x, y, b, e)
				}
				if b, e := z.Read(0, x, y); len(b) != 0 || e != api.ErrState {
					t.Errorf("P8.5: Read(0, %d, %d) = %v %d", x, y, b, e)
				}
				if e := z.Write(x, y, []byte("abc")); e != api.ErrState {
					t.Errorf("P8.5: Write(%d, %d) = %d", x, y, e)
				}
				if e := z.Truncate(x, y); e != api.ErrState {
					t.Errorf("P8.5: Truncate(%d, %d) = %d", x, y, e)
				}
			}
		}
		if e := z.Format(); e != api.ErrState {
			t.Errorf("P8.5: Format() = %d", e)
		}
	}
}

// TestOddStores: on a cache, maps or a plan that are none, all calls end and are refused.
func TestOddStores(t *testing.T) {
	k := made(t, 300, 8)
	k.begin()
	var noCache *cache.Cache
	var noMaps *alloc.Alloc
	var noJournal *journal.Journal
	odd := k.p
	odd.Table, odd.Inodes = math.MaxInt, math.MaxInt
	low := k.p
	low.Table, low.Data, low.DataCount = -5, math.MinInt, math.MinInt
	for _, s := range []*inode.Store{
		inode.New(nil, nil, api.Plan{}),
		inode.New(noCache, noMaps, k.p),
		inode.New(&cache.Cache{}, &alloc.Alloc{}, k.p),
		inode.New(cache.New(noJournal), k.a, k.p),
		inode.New(k.c, noMaps, k.p),
		inode.New(k.c, &alloc.Alloc{}, k.p),
		inode.New(k.c, k.a, api.Plan{}),
		inode.New(k.c, k.a, odd),
		inode.New(k.c, k.a, low),
		inode.New(k.c, alloc.New(k.c, odd), odd),
		inode.New(k.c, alloc.New(k.c, low), low),
	} {
		for _, i := range []int{-1, 0, 1, 7, 8, math.MinInt, math.MaxInt} {
			if st, e := s.Stat(i); st != (api.Stat{}) || e == api.OK {
				t.Errorf("P8.1: Stat(%d) of an odd Store = %v %d", i, st, e)
			}
			if b, e := s.Read(i, 0, 1); len(b) != 0 || e == api.OK {
				t.Errorf("P8.2: Read(%d) of an odd Store = %v %d", i, b, e)
			}
			if s.Write(i, 0, []byte("abc")) == api.OK || s.Truncate(i, 5) == api.OK || s.Drop(i) == api.OK {
				t.Errorf("P8.3: an odd Store changed the inode %d", i)
			}
		}
	}
}

// TestTornTable: bytes of the table that no Store laid let no call panic.
func TestTornTable(t *testing.T) {
	for seed := range 40 {
		k := made(t, 300, 8)
		k.begin()
		for i := 1; i < 8; i++ {
			k.make(1, i)
		}
		x := dice(seed)
		b, _ := k.c.Read(k.p.Table)
		for at := range b {
			if at%64 >= 8 || x.below(2) == 0 {
				b[at] = byte(x.below(256) * x.below(2))
			}
			if at%4 > 1 && seed%2 == 0 {
				b[at] = 0
			}
		}
		k.must("cache.Write", k.c.Write(k.p.Table, b), api.OK)
		for i := range 8 {
			k.s.Stat(i)
			k.s.Read(i, 0, math.MaxInt)
			k.s.Read(i, 5000, 1000)
			k.s.Write(i, 0, text(i, 700))
			k.s.Truncate(i, 6000)
			k.s.Truncate(i, 7)
			k.s.Drop(i)
		}
	}
}

// TestOddNumbers: one number of the table, or one byte of it, is another one: no call panics, and nothing is told that is no inode.
func TestOddNumbers(t *testing.T) {
	k, _ := fileOf(t, 70656)
	odd := []uint64{0, 1, 3, 13, 300, 600, 1<<16 - 1}
	for at := 0; at < 2*api.Block; at += 2 {
		for n, v := range odd {
			k.begin()
			block := k.p.Table + at/api.Block
			b, _ := k.c.Read(block)
			b, _ = bits.Put(b, at%api.Block, 1+n%2, false, v)
			k.must("cache.Write", k.c.Write(block, b), api.OK)
			st, e := k.s.Stat(1)
			is := e == api.OK && st.Kind >= 1 && st.Kind <= 2 && st.Size >= 0 && st.Size <= api.MaxFile
			if !is && (e != api.ErrNone || st != (api.Stat{})) {
				t.Errorf("P8.1: Stat(1) = %v %d, where the number at %d is %d", st, e, at, v)
			}
			k.s.Read(1, 0, math.MaxInt)
			k.s.Write(1, st.Size, []byte("abc"))
			k.s.Write(1, 0, []byte("abc"))
			k.s.Truncate(1, 70656)
			k.s.Truncate(1, 5)
			k.s.Truncate(1, 7000)
			k.s.Drop(1)
			k.s.Make(1)
			k.abort()
		}
	}
}

// TestTakenByOthers: an inode that was taken, but not made, is none.
func TestTakenByOthers(t *testing.T) {
	k := made(t, 600, 12)
	k.begin()
	for i := 1; i < 12; i++ {
		if n, e := k.a.TakeInode(); n != i || e != api.OK {
			t.Fatalf("TakeInode() = %d %d", n, e)
		}
		k.none(i)
		k.noRead(i, 0, 1, api.ErrNone)
		k.must("P8.1: Drop", k.s.Drop(i), api.ErrNone)
		k.must("P8.3: Write", k.s.Write(i, 0, nil), api.ErrNone)
	}
	k.noMake(1, api.ErrFull)
	k.abort()

	// Nor is it what another one of its number was, ahead of a Format.
	for range 3 {
		k.step(func() {
			for i := 1; i < 12; i++ {
				k.make(1, i)
			}
		})
		k.step(func() { k.must("P8.1: Format()", k.s.Format(), api.OK) })
		k.begin()
		for _, i := range []int{1, 2, 3} {
			if n, e := k.a.TakeInode(); n != i || e != api.OK {
				t.Fatalf("TakeInode() = %d %d", n, e)
			}
		}
		k.make(2, 4)
		k.write(4, 0, text(1, 700))
		for _, i := range []int{1, 2, 3, 5} {
			k.none(i)
		}
		k.holds(4, text(1, 700))
		k.must("P8.1: Format()", k.s.Format(), api.OK)
		k.commit()
	}
}
