package alloc_test

import (
	"bytes"
	"testing"

	"bollard/api"
)

// junk is bytes that are no map.
func junk(n int) []byte {
	b := make([]byte, n)
	for i := range b {
		b[i] = byte(7*i + 0x5b)
	}
	return b
}

// emptyMaps must be there: noughts, but for the inode 0.
func (k *kit) emptyMaps(what string) {
	k.t.Helper()
	want := make([]byte, (k.p.Table-k.p.InodeMap)*api.Block)
	want[0] = 1
	if !bytes.Equal(k.read(k.p.InodeMap, k.p.Table), want) {
		k.t.Fatalf("P7.1: %s: the maps are not noughts but for the inode 0 (of the plan %v)", what, k.p)
	}
	k.free(k.p.DataCount, k.p.Inodes-1)
}

// TestFormat: over maps that hold other bytes, and over no other block.
func TestFormat(t *testing.T) {
	for _, s := range append(sizes(), [2]int{65536, 4096}) {
		k := bare(t, s[0], s[1])
		others := []int{api.Journal, k.p.Table, k.p.Data - 1, k.p.Data, k.p.Blocks - 1}
		k.begin()
		k.write(k.p.InodeMap, junk((k.p.Table-k.p.InodeMap)*api.Block))
		for _, b := range others {
			k.write(b, junk(api.Block))
		}
		k.commit()
		before := k.read(k.p.InodeMap, k.p.Table)
		for _, commits := range []bool{false, true} {
			k.begin()
			k.must("P7.1: Format()", k.a.Format(), api.OK)
			k.emptyMaps("within the transaction")
			if k.c.Dirty() != k.p.Table-k.p.InodeMap || k.c.Dirty() > 18 {
				t.Errorf("P7.1: Format wrote %d blocks of the plan %v", k.c.Dirty(), k.p)
			}
			for _, b := range others {
				if !bytes.Equal(k.read(b, b+1), junk(api.Block)) {
					t.Errorf("P7.1: Format wrote block %d of the plan %v", b, k.p)
				}
			}
			if commits {
				k.commit()
				k.emptyMaps("behind Commit")
				on(t, k.d.Crash(nil), k.p).emptyMaps("behind a crash")
				continue
			}
			k.abort()
			if !bytes.Equal(k.read(k.p.InodeMap, k.p.Table), before) {
				t.Errorf("P7.1: Format that was aborted left something of it (of the plan %v)", k.p)
			}
		}
	}
}

// TestFormatAgain: what was taken is free, in the same transaction and in another one.
func TestFormatAgain(t *testing.T) {
	for _, s := range sizes() {
		k := made(t, s[0], s[1])
		for range 3 {
			k.begin()
			most := min(k.p.DataCount, 5000)
			k.blocks(span(k.p.Data, k.p.Data+most)...)
			k.inodes(span(1, k.p.Inodes)...)
			k.free(k.p.DataCount-most, 0)
			k.commit()
			k.begin()
			if k.p.DataCount > most {
				k.blocks(k.p.Data + most)
			}
			k.must("P7.1: Format()", k.a.Format(), api.OK)
			k.emptyMaps("behind takes")
			k.must("P7.1: Format() twice", k.a.Format(), api.OK)
			k.emptyMaps("twice")
			k.blocks(k.p.Data)
			k.must("P7.1: GiveInode(0) behind Format", k.a.GiveInode(0), api.ErrArg)
			if k.p.Inodes > 1 {
				k.inodes(1)
			} else {
				k.noInode(api.ErrFull)
			}
			k.giveBlocks(k.p.Data)
			if k.p.Inodes > 1 {
				k.giveInodes(1)
			}
			k.commit()
			k.emptyMaps("behind gives")
		}
	}
}

// TestFormatWithoutRoom: the blocks of the maps are counted each once, those that are written already are not; with one too many nothing has happened.
func TestFormatWithoutRoom(t *testing.T) {
	for _, s := range [][2]int{{1000, 64}, {4346, 8}, {13000, 4095}, {65536, 4096}} {
		k := bare(t, s[0], s[1])
		maps := k.p.Table - k.p.InodeMap
		for written := range maps + 1 {
			for fill := 60 - maps - 2; fill <= 60; fill++ {
				if fill < written {
					continue
				}
				k.begin()
				// The last ones of the maps are written already, so that the first ones would be the last straw.
				k.write(k.p.Table-written, junk(written*api.Block))
				k.write(k.p.Data, junk((fill-written)*api.Block))
				if fill+maps-written > 60 {
					unchanged := k.same()
					k.must("P7.1: Format() without room", k.a.Format(), api.ErrBig)
					unchanged("Format() without room")
				} else {
					k.must("P7.1: Format() with room", k.a.Format(), api.OK)
					k.emptyMaps("with just enough room")
					if k.c.Dirty() != fill+maps-written {
						t.Fatalf("P7.1: %v: %d blocks, %d of them of the maps, and Format: %d", k.p, fill, written, k.c.Dirty())
					}
				}
				k.abort()
			}
		}
	}
}

// TestFormatWithoutRoomElsewhere: the same, where the first ones of the maps are written already.
func TestFormatWithoutRoomElsewhere(t *testing.T) {
	k := bare(t, 13000, 4095)
	maps := k.p.Table - k.p.InodeMap
	for written := range maps + 1 {
		k.begin()
		k.write(k.p.InodeMap, junk(written*api.Block))
		k.write(k.p.Data, junk((60-maps)*api.Block))
		k.must("P7.1: Format() with room", k.a.Format(), api.OK)
		k.emptyMaps("with just enough room")
		k.abort()
		if written == maps {
			return
		}
		k.begin()
		k.write(k.p.InodeMap, junk(written*api.Block))
		k.write(k.p.Data, junk((60-maps+1)*api.Block))
		unchanged := k.same()
		k.must("P7.1: Format() without room", k.a.Format(), api.ErrBig)
		unchanged("Format() without room")
		k.abort()
	}
}
