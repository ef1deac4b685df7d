package alloc_test

import (
	"bytes"
	"slices"
	"testing"

	"bollard/alloc"
	"bollard/api"
	"bollard/bits"
)

// has must be true of those inodes alone.
func (k *kit) has(what string, want ...int) {
	k.t.Helper()
	for _, i := range append(noInodes(k.p), span(0, k.p.Inodes)...) {
		if got := k.a.HasInode(i); got != slices.Contains(want, i) {
			k.t.Fatalf("%s: HasInode(%d) = %v (of the plan %v)", what, i, got, k.p)
		}
	}
}

// TestHasInode: of those that are taken, in the transaction and behind it.
func TestHasInode(t *testing.T) {
	k := bare(t, 600, 20)
	k.has("at first")
	k = made(t, 600, 20)
	k.has("behind Format", 0)
	k.begin()
	k.write(api.Journal, bytes.Repeat([]byte{255}, api.Block))
	k.has("where the block ahead of the map is full of ones", 0)
	k.inodes(1, 2, 3, 4)
	k.giveInodes(2)
	k.has("in the transaction", 0, 1, 3, 4)
	k.abort()
	k.has("behind Abort", 0)
	k.begin()
	k.inodes(span(1, 20)...)
	k.blocks(k.p.Data)
	k.commit()
	k.has("all are taken", span(0, 20)...)
	var none *alloc.Alloc
	for _, a := range []*alloc.Alloc{none, {}, alloc.New(nil, k.p)} {
		if a.HasInode(0) || a.HasInode(1) || a.HasInode(-1) {
			t.Error("P7.3: a nil or zero Alloc has an inode")
		}
	}
}

// TestFreeInodes: all but the inode 0 are free then, whatever the map held; blocks stay taken.
func TestFreeInodes(t *testing.T) {
	for _, inodes := range []int{1, 2, 8, 100, 4096} {
		k := made(t, 1200, inodes)
		all := k.p.DataCount
		unchanged := k.same()
		k.must("FreeInodes() without a transaction", k.a.FreeInodes(), api.ErrState)
		unchanged("FreeInodes with ErrState")
		k.begin()
		k.write(k.p.InodeMap, junk(api.Block))
		k.blocks(k.p.Data, k.p.Data+1)
		k.must("FreeInodes()", k.a.FreeInodes(), api.OK)
		k.free(all-2, inodes-1)
		k.has("behind FreeInodes", 0)
		k.commit()
		k.free(all-2, inodes-1)
		k.begin()
		k.inodes(span(1, min(inodes, 20))...)
		k.abort()
		k.begin()
		k.write(k.p.Data, junk(60*api.Block))
		unchanged = k.same()
		k.must("FreeInodes() of a full transaction", k.a.FreeInodes(), api.ErrBig)
		unchanged("FreeInodes with ErrBig")
	}
	var none *alloc.Alloc
	for _, a := range []*alloc.Alloc{none, {}, alloc.New(nil, api.Plan{})} {
		if e := a.FreeInodes(); e != api.ErrState {
			t.Errorf("P7.3: FreeInodes of a nil or zero Alloc = %d", e)
		}
	}
}

// TestInodes: the map is told as HasInode tells it, in memory of its own.
func TestInodes(t *testing.T) {
	for _, inodes := range []int{1, 12, 4096} {
		k := made(t, 1200, inodes)
		k.begin()
		k.inodes(span(1, inodes)...)
		if inodes > 3 {
			k.giveInodes(2)
		}
		b, e := k.a.Inodes()
		if e != api.OK || !bytes.Equal(b, k.inodeMap()) {
			t.Fatalf("Inodes() = %v %d, want the map", b, e)
		}
		for i := range inodes {
			if bits.Test(b, i) != k.a.HasInode(i) {
				t.Errorf("the bit %d is not what HasInode tells", i)
			}
		}
		clear(b)
		if c, _ := k.a.Inodes(); bytes.Equal(b, c) {
			t.Error("Inodes() is no new memory")
		}
	}
	k := made(t, 600, 12)
	odd := k.p
	odd.InodeMap = -5
	var none *alloc.Alloc
	for what, a := range map[string]*alloc.Alloc{"nil": none, "zero": {}, "odd": alloc.New(k.c, odd), "of no cache": alloc.New(nil, k.p)} {
		if b, e := a.Inodes(); len(b) != 0 || e != api.OK && e != api.ErrArg {
			t.Errorf("Inodes() of an Alloc that is %s = %v %d", what, b, e)
		}
	}
}
