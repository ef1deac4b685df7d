package catalog_test

import (
	"fmt"
	"testing"

	"bollard/api"
	"bollard/bits"
	"bollard/cache"
	"bollard/journal"
	"bollard/layout"
)

// wide is the greatest device, with a catalog of 19 topics as deep as it may be, in which as little as can be lies together: eight of its directory's 80 slots are free, each in a block of its own; 300 data blocks are free, the first ten of them in blocks of the map of their own; and 40 inodes, whose sizes lie in all blocks that have sizes.
func wide(t *testing.T) (*kit, *plain) {
	t.Helper()
	k := made(t, api.MaxBlocks, api.MaxInodes)
	c, q := k.makes(k.deep(6))
	for i := range 19 {
		k.creates("P17.2", c, q, fmt.Sprint("a", i), 1, mostSet())
	}
	for i := 20; i < 80; i++ {
		k.do(k.f.Create(fmt.Sprint(q.dir, "/other", i)))
	}
	for i := range 8 {
		k.do(k.f.Remove(fmt.Sprint(q.dir, "/other", 20+8*i)))
	}
	k.scatterInodes()
	k = k.scatterBlocks()
	if blocks, inodes := k.f.Free(); blocks != api.Room || inodes != 40 {
		t.Fatalf("the test's own device has %d blocks and %d inodes left", blocks, inodes)
	}
	return k, q
}

// scatterInodes takes all inodes but 40.
func (k *kit) scatterInodes() {
	k.t.Helper()
	path := func(i int) string { return fmt.Sprint("/fill", i/1000, "/", i) }
	for i := range 5 {
		k.do(k.f.Mkdir(fmt.Sprint("/fill", i)))
	}
	_, inodes := k.f.Free()
	for i := api.MaxInodes - inodes; i < api.MaxInodes; i++ { // the least one that is free is taken
		k.do(k.f.Create(path(i)))
	}
	for n := range 40 {
		i := 160 + 165*n
		if n >= 24 {
			i = api.MaxInodes - 50 + n
		}
		// Where a size was, the new one is written over it; a great one has a digit elsewhere.
		for range 1 + n%24/23*16 {
			k.do(k.f.Append(path(i), make([]byte, 4096)))
		}
		k.do(k.f.Remove(path(i)))
	}
}

// scatterBlocks is the file system in whose map all data blocks are taken but 300.
func (k *kit) scatterBlocks() *kit {
	k.t.Helper()
	j, e := journal.Open(k.d)
	super, code := j.Read(api.Journal)
	p, bad := layout.Decode(super)
	c := cache.New(j)
	k.do(e, code, bad, c.Begin())
	for b := p.BlockMap; b < p.Table; b++ {
		last := min(4096, p.DataCount-4096*(b-p.BlockMap))
		free := 0
		switch b - p.BlockMap {
		case 0, 1, 2, 3, 4, 5, 6, 7, 8, 9:
			free = 1
		case 15:
			free = api.Room - 10
		}
		one, e := c.Read(b)
		for bit := range last - free {
			one[bit/8] |= 1 << (bit % 8)
		}
		if bits.Count(one, last) != last-free {
			k.t.Fatal("the test's own blocks lie where none should be")
		}
		k.do(e, c.Write(b, one))
	}
	k.do(c.Commit(), j.Sync())
	return mounted(k.t, k.d)
}

// TestRoom: with 300 data blocks and 40 inodes free, wherever these lie, a topic of eight parts is not refused; nor if the directory must grow, by a block and one of numbers.
func TestRoom(t *testing.T) {
	old, first := wide(t)
	for _, grows := range []bool{false, true} {
		k, q := old.fork(), first.clone()
		if grows {
			k.do(k.f.Rename("/fill2/2000", q.dir+"/other"))
		}
		c, ops := k.opens(q.dir), k.d.Ops()
		k.creates("P17.2", c, q, "new", 8, mostSet())
		if n := k.d.Ops() - ops; n < 50 {
			t.Errorf("the transaction took %d ops: it is none of the worst", n)
		}
		if blocks, inodes := k.f.Free(); blocks < api.Room-10 || inodes != 16 {
			t.Errorf("P17.2: behind Create %d blocks and %d inodes are free", blocks, inodes)
		}
		k.is("P17.2", c, q)
		fork := k.fork()
		fork.is("P17.2", fork.opens(q.dir), q)
		k.deletes("P17.2", c, q, "new")
		k.sweepsAll("P17.3", c, q)
		k.creates("P17.2", c, q, "new", 8, leastSet())
	}
}
