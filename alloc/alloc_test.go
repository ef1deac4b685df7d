package alloc_test

import (
	"bytes"
	"slices"
	"testing"

	"bollard/alloc"
	"bollard/api"
	"bollard/bits"
	"bollard/cache"
	"bollard/device"
	"bollard/journal"
	"bollard/layout"
)

// kit is an Alloc and what it stands on.
type kit struct {
	t *testing.T
	d *device.Device
	c *cache.Cache
	a *alloc.Alloc
	p api.Plan
}

// bare is a kit on a new device, whose maps nobody has formatted.
func bare(t *testing.T, n, inodes int) *kit {
	t.Helper()
	p, e := layout.Make(n, inodes)
	if e != api.OK {
		t.Fatalf("Make(%d, %d) = %d", n, inodes, e)
	}
	d, e := device.New(n)
	if e != api.OK {
		t.Fatalf("New(%d) = %d", n, e)
	}
	if e := journal.Format(d); e != api.OK {
		t.Fatalf("journal.Format = %d", e)
	}
	return on(t, d, p)
}

// on is a kit on a device that has a journal.
func on(t *testing.T, d *device.Device, p api.Plan) *kit {
	t.Helper()
	j, e := journal.Open(d)
	if e != api.OK {
		t.Fatalf("journal.Open = %d", e)
	}
	c := cache.New(j)
	return &kit{t, d, c, alloc.New(c, p), p}
}

// made is a kit whose maps are formatted and committed.
func made(t *testing.T, n, inodes int) *kit {
	t.Helper()
	k := bare(t, n, inodes)
	k.begin()
	k.must("P7.1: Format()", k.a.Format(), api.OK)
	k.commit()
	return k
}

// must holds an error against the one that is asked for.
func (k *kit) must(what string, got, want api.Errno) {
	k.t.Helper()
	if got != want {
		k.t.Fatalf("%s = %d, want %d (of the plan %v)", what, got, want, k.p)
	}
}

func (k *kit) begin() {
	k.t.Helper()
	k.must("Begin()", k.c.Begin(), api.OK)
}

func (k *kit) commit() {
	k.t.Helper()
	k.must("Commit()", k.c.Commit(), api.OK)
}

func (k *kit) abort() {
	k.t.Helper()
	k.must("Abort()", k.c.Abort(), api.OK)
}

// blocks must be taken, one after the other.
func (k *kit) blocks(want ...int) {
	k.t.Helper()
	for _, w := range want {
		if got, e := k.a.TakeBlock(); got != w || e != api.OK {
			k.t.Fatalf("P7.1: TakeBlock() = %d %d, want %d (of the plan %v)", got, e, w, k.p)
		}
	}
}

// inodes must be taken, one after the other.
func (k *kit) inodes(want ...int) {
	k.t.Helper()
	for _, w := range want {
		if got, e := k.a.TakeInode(); got != w || e != api.OK {
			k.t.Fatalf("P7.1: TakeInode() = %d %d, want %d (of the plan %v)", got, e, w, k.p)
		}
	}
}

// noBlock is a TakeBlock that must be refused.
func (k *kit) noBlock(want api.Errno) {
	k.t.Helper()
	if got, e := k.a.TakeBlock(); got != 0 || e != want {
		k.t.Fatalf("P7.1: TakeBlock() = %d %d, want 0 %d (of the plan %v)", got, e, want, k.p)
	}
}

// noInode is a TakeInode that must be refused.
func (k *kit) noInode(want api.Errno) {
	k.t.Helper()
	if got, e := k.a.TakeInode(); got != 0 || e != want {
		k.t.Fatalf("P7.1: TakeInode() = %d %d, want 0 %d (of the plan %v)", got, e, want, k.p)
	}
}

// giveBlocks must be free then.
func (k *kit) giveBlocks(l ...int) {
	k.t.Helper()
	for _, b := range l {
		if e := k.a.GiveBlock(b); e != api.OK {
			k.t.Fatalf("P7.1: GiveBlock(%d) = %d (of the plan %v)", b, e, k.p)
		}
	}
}

// giveInodes must be free then.
func (k *kit) giveInodes(l ...int) {
	k.t.Helper()
	for _, i := range l {
		if e := k.a.GiveInode(i); e != api.OK {
			k.t.Fatalf("P7.1: GiveInode(%d) = %d (of the plan %v)", i, e, k.p)
		}
	}
}

// free must be so many.
func (k *kit) free(blocks, inodes int) {
	k.t.Helper()
	if b, i := k.a.Free(); b != blocks || i != inodes {
		k.t.Fatalf("P7.1: Free() = %d %d, want %d %d (of the plan %v)", b, i, blocks, inodes, k.p)
	}
}

// read is the blocks from one up to another, through the cache.
func (k *kit) read(from, to int) (out []byte) {
	k.t.Helper()
	for i := from; i < to; i++ {
		b, e := k.c.Read(i)
		k.must("Read", e, api.OK)
		out = append(out, b...)
	}
	return out
}

// write is the blocks from one on, through the cache.
func (k *kit) write(from int, b []byte) {
	k.t.Helper()
	for part := range slices.Chunk(b, api.Block) {
		k.must("Write", k.c.Write(from, part), api.OK)
		from++
	}
}

func (k *kit) inodeMap() []byte {
	k.t.Helper()
	return k.read(k.p.InodeMap, k.p.BlockMap)
}

func (k *kit) blockMap() []byte {
	k.t.Helper()
	return k.read(k.p.BlockMap, k.p.Table)
}

// same is a look at all that a call could have changed; what it answers fails, if anything did.
func (k *kit) same() func(what string) {
	k.t.Helper()
	maps, dirty, ops, open := k.read(k.p.InodeMap, k.p.Table), k.c.Dirty(), k.d.Ops(), k.c.Open()
	blocks, inodes := k.a.Free()
	return func(what string) {
		k.t.Helper()
		if !bytes.Equal(k.read(k.p.InodeMap, k.p.Table), maps) {
			k.t.Fatalf("P7.1: %s changed the maps (of the plan %v)", what, k.p)
		}
		if k.c.Dirty() != dirty || k.d.Ops() != ops || k.c.Open() != open {
			k.t.Fatalf("P7.1: %s: the transaction has %d blocks, %d had it; %d ops, open %v (of the plan %v)", what, k.c.Dirty(), dirty, k.d.Ops()-ops, k.c.Open(), k.p)
		}
		k.free(blocks, inodes)
	}
}

// span is the numbers from one up to another.
func span(from, to int) (out []int) {
	for i := from; i < to; i++ {
		out = append(out, i)
	}
	return out
}

// sizes are devices and inodes with one block of the map of data blocks and with several; 4346 has two, of which the second tells of no block.
func sizes() [][2]int {
	return [][2]int{
		{250, 1}, {251, 8}, {260, 12}, {1000, 64}, {4343, 8}, {4344, 8}, {4345, 8}, {4346, 8}, {4347, 8},
		{5000, 100}, {8442, 8}, {8443, 8}, {8444, 8}, {13000, 4095}, {1000, 4096},
	}
}

func TestExample(t *testing.T) {
	for _, s := range [][2]int{{260, 12}, {1000, 64}, {5000, 100}} {
		k := bare(t, s[0], s[1])
		k.begin()
		k.must("the chapter's example: Format()", k.a.Format(), api.OK)
		k.blocks(k.p.Data, k.p.Data+1)
		k.giveBlocks(k.p.Data)
		k.blocks(k.p.Data)
		k.blocks(k.p.Data + 2)
		k.commit()
	}
}

// TestBits: a map is bits, 1 is taken, the first bit is the least one of the first byte.
func TestBits(t *testing.T) {
	k := made(t, 5000, 100)
	k.begin()
	k.blocks(span(k.p.Data, k.p.Data+4100)...)
	k.giveBlocks(k.p.Data, k.p.Data+9, k.p.Data+4095, k.p.Data+4098)
	k.inodes(span(1, 30)...)
	k.giveInodes(1, 7, 8, 26)
	k.commit()
	free := map[int]bool{0: true, 9: true, 4095: true, 4098: true}
	for bit := range 2 * 4096 {
		if got, want := bits.Test(k.blockMap(), bit), bit < 4100 && !free[bit]; got != want {
			t.Errorf("P7.1: bit %d of the map of data blocks is %v", bit, got)
		}
	}
	free = map[int]bool{1: true, 7: true, 8: true, 26: true}
	for bit := range 4096 {
		if got, want := bits.Test(k.inodeMap(), bit), bit < 30 && !free[bit]; got != want {
			t.Errorf("P7.1: bit %d of the map of inodes is %v", bit, got)
		}
	}
}

// TestMapsOfOthers: what stands in the maps holds, whoever wrote it.
func TestMapsOfOthers(t *testing.T) {
	k := made(t, 5000, 100)
	k.begin()
	b := bytes.Repeat([]byte{255}, 1024)
	for _, bit := range []int{3, 4095, 4096, 4700} {
		b = bits.Set(b, bit, false)
	}
	k.write(k.p.BlockMap, b)
	k.write(k.p.InodeMap, append([]byte{0b1101_0101, 0xff}, bytes.Repeat([]byte{0xff}, 510)...))
	k.free(4, 3)
	k.blocks(k.p.Data+3, k.p.Data+4095, k.p.Data+4096, k.p.Data+4700)
	k.noBlock(api.ErrFull)
	k.inodes(1, 3, 5)
	k.noInode(api.ErrFull)
	k.free(0, 0)
	k.giveBlocks(k.p.Data + 4)
	k.giveInodes(99)
	k.free(1, 1)
	k.commit()
	k.free(1, 1)
}

// TestLeast: across the edges of bytes and of blocks of a map, behind gives in any order.
func TestLeast(t *testing.T) {
	k := made(t, 13000, 4096)
	data := k.p.Data
	k.begin()
	k.blocks(span(data, data+8300)...)
	k.inodes(span(1, 4000)...)
	for _, l := range [][]int{
		{0}, {8299}, {7}, {8}, {7, 8}, {8, 7}, {4095}, {4096}, {4096, 4095}, {4097, 4095, 4096, 4094}, {8191, 8192}, {8192, 8191, 0},
		{8298, 16, 4111, 15, 4112, 1, 8190, 23, 4088, 24}, {63, 64, 65, 62, 127, 128, 255, 256, 511, 512, 513, 510},
	} {
		sorted := slices.Sorted(slices.Values(l))
		for _, bit := range l {
			k.giveBlocks(data + bit)
		}
		k.free(k.p.DataCount-8300+len(l), 96)
		for i, bit := range sorted {
			k.blocks(data + bit)
			k.free(k.p.DataCount-8300+len(l)-i-1, 96)
		}
	}
	k.blocks(data + 8300)
	for _, l := range [][]int{{1}, {3999}, {7, 8}, {8, 7}, {16, 2, 15, 3998, 511, 512, 1}} {
		k.giveInodes(l...)
		k.inodes(slices.Sorted(slices.Values(l))...)
	}
	k.inodes(4000)
	k.free(k.p.DataCount-8301, 95)
	k.commit()
	k.free(k.p.DataCount-8301, 95)
}

// TestTwoMaps: blocks are nothing to inodes, nor the other way round.
func TestTwoMaps(t *testing.T) {
	k := made(t, 1000, 64)
	k.begin()
	inodes, blocks := k.inodeMap(), k.blockMap()
	k.blocks(k.p.Data, k.p.Data+1)
	k.giveBlocks(k.p.Data)
	if !bytes.Equal(k.inodeMap(), inodes) || k.c.Dirty() != 1 {
		t.Errorf("P7.1: TakeBlock wrote the map of inodes: Dirty() = %d", k.c.Dirty())
	}
	k.abort()
	k.begin()
	k.inodes(1, 2)
	k.giveInodes(1)
	if !bytes.Equal(k.blockMap(), blocks) || k.c.Dirty() != 1 {
		t.Errorf("P7.1: TakeInode wrote the map of data blocks: Dirty() = %d", k.c.Dirty())
	}
}

// TestAll: each is taken once, then there is none, and nothing happens any more.
func TestAll(t *testing.T) {
	for _, s := range append(sizes(), [2]int{65536, 4096}) {
		k := made(t, s[0], s[1])
		k.begin()
		k.blocks(span(k.p.Data, k.p.Blocks)...)
		k.inodes(span(1, k.p.Inodes)...)
		k.free(0, 0)
		unchanged := k.same()
		for range 3 {
			k.noBlock(api.ErrFull)
			k.noInode(api.ErrFull)
		}
		unchanged("a call with ErrFull")
		if got := bits.Count(k.blockMap(), 17*4096); got != k.p.DataCount {
			t.Errorf("P7.1: %v: %d bits of data blocks are set", k.p, got)
		}
		if got := bits.Count(k.inodeMap(), 4096); got != k.p.Inodes {
			t.Errorf("P7.1: %v: %d bits of inodes are set", k.p, got)
		}
		k.commit()
		k.free(0, 0)
		k.begin()
		k.noBlock(api.ErrFull)
		k.noInode(api.ErrFull)
		k.giveBlocks(k.p.Blocks - 1)
		k.free(1, 0)
		k.blocks(k.p.Blocks - 1)
		k.noBlock(api.ErrFull)
		k.giveBlocks(k.p.Data)
		k.blocks(k.p.Data)
		if k.p.Inodes > 1 {
			k.giveInodes(k.p.Inodes - 1)
			k.free(0, 1)
			k.inodes(k.p.Inodes - 1)
		}
		k.noInode(api.ErrFull)
	}
}

// TestBehindTheLast: bits that tell of nothing are neither counted, taken, given nor written, whatever they are.
func TestBehindTheLast(t *testing.T) {
	for _, s := range sizes() {
		for _, junk := range []byte{0, 255} {
			k := made(t, s[0], s[1])
			k.begin()
			blocks, inodes := bytes.Repeat([]byte{junk}, len(k.blockMap())), bytes.Repeat([]byte{junk}, 512)
			for bit := range k.p.DataCount {
				blocks = bits.Set(blocks, bit, bit != k.p.DataCount-1)
			}
			for bit := range k.p.Inodes {
				inodes = bits.Set(inodes, bit, bit == 0 || bit != k.p.Inodes-1)
			}
			k.write(k.p.BlockMap, blocks)
			k.write(k.p.InodeMap, inodes)
			left := min(1, k.p.Inodes-1)
			k.free(1, left)
			for i := range 10 {
				k.must("P7.1: GiveBlock behind the last", k.a.GiveBlock(k.p.Blocks+i), api.ErrArg)
				k.must("P7.1: GiveInode behind the last", k.a.GiveInode(k.p.Inodes+i), api.ErrArg)
			}
			k.blocks(k.p.Blocks - 1)
			k.noBlock(api.ErrFull)
			if left == 1 {
				k.inodes(k.p.Inodes - 1)
			}
			k.noInode(api.ErrFull)
			k.free(0, 0)
			if !bytes.Equal(k.blockMap(), bits.Set(blocks, k.p.DataCount-1, true)) || !bytes.Equal(k.inodeMap(), bits.Set(inodes, k.p.Inodes-1, true)) {
				t.Errorf("P7.1: %v: bits that tell of nothing were written", k.p)
			}
		}
	}
}
