package alloc_test

import (
	"bytes"
	"math"
	"testing"

	"bollard/alloc"
	"bollard/api"
	"bollard/cache"
	"bollard/journal"
)

// noBlocks are numbers that are no data block.
func noBlocks(p api.Plan) []int {
	return []int{
		0, 1, -1, p.Data - 1, p.Table, p.BlockMap, -p.Data, p.Blocks, p.Blocks + 1, p.DataCount + p.Data + 7, p.Data + 4096*16, p.Data + 1<<16,
		p.Data + 1<<32, p.Data - 1<<32, 1 << 16, math.MinInt, math.MinInt + 1, math.MinInt + p.Data, math.MaxInt, math.MaxInt - p.Data, math.MinInt + p.Data - 1,
	}
}

// noInodes are numbers that are no inode, and 0.
func noInodes(p api.Plan) []int {
	return []int{0, -1, -2, -p.Inodes, p.Inodes, p.Inodes + 1, p.Inodes + 8, 4096, 4097, 1 << 16, 1 << 32, 1<<32 + 1, 1 - 1<<32, math.MinInt, math.MinInt + 1, math.MaxInt, math.MaxInt - 1}
}

// refused are gives of which each must be ErrArg, and nothing has happened.
func (k *kit) refused(what string, blocks, inodes []int) {
	k.t.Helper()
	unchanged := k.same()
	for _, b := range blocks {
		if e := k.a.GiveBlock(b); e != api.ErrArg {
			k.t.Fatalf("P7.1: %s: GiveBlock(%d) = %d (of the plan %v)", what, b, e, k.p)
		}
	}
	for _, i := range inodes {
		if e := k.a.GiveInode(i); e != api.ErrArg {
			k.t.Fatalf("P7.1: %s: GiveInode(%d) = %d (of the plan %v)", what, i, e, k.p)
		}
	}
	unchanged(what)
}

// TestGiveRefused: what is none, what is free, the inode 0; with nothing taken and with all.
func TestGiveRefused(t *testing.T) {
	for _, s := range sizes() {
		k := made(t, s[0], s[1])
		k.begin()
		k.refused("nothing is taken", noBlocks(k.p), noInodes(k.p))
		if k.p.Blocks < 6000 {
			k.refused("what is free", span(k.p.Data, k.p.Blocks), span(1, k.p.Inodes))
		}
		k.blocks(span(k.p.Data, k.p.Blocks)...)
		k.inodes(span(1, k.p.Inodes)...)
		k.refused("all is taken", noBlocks(k.p), noInodes(k.p))
		for _, b := range []int{k.p.Data, k.p.Data + k.p.DataCount/2, k.p.Blocks - 1} {
			k.giveBlocks(b)
			k.refused("what was given", []int{b}, nil)
			k.blocks(b)
		}
		for _, i := range []int{1, k.p.Inodes / 2, k.p.Inodes - 1} {
			if i > 0 && i < k.p.Inodes {
				k.giveInodes(i)
				k.refused("what was given", nil, []int{i})
				k.inodes(i)
			}
		}
	}
}

// TestWithoutTransaction: ErrState of all but Free, ahead of all that else is wrong.
func TestWithoutTransaction(t *testing.T) {
	k := made(t, 260, 12)
	check := func(what string) {
		t.Helper()
		unchanged := k.same()
		k.must("P7.1: "+what+": Format()", k.a.Format(), api.ErrState)
		k.noBlock(api.ErrState)
		k.noInode(api.ErrState)
		for _, b := range append(noBlocks(k.p), span(k.p.Data, k.p.Blocks)...) {
			k.must("P7.1: "+what+": GiveBlock", k.a.GiveBlock(b), api.ErrState)
		}
		for _, i := range append(noInodes(k.p), span(1, k.p.Inodes)...) {
			k.must("P7.1: "+what+": GiveInode", k.a.GiveInode(i), api.ErrState)
		}
		unchanged(what)
	}
	check("at first")
	k.free(10, 11)
	k.begin()
	k.blocks(span(k.p.Data, k.p.Blocks)...)
	k.inodes(span(1, 12)...)
	k.abort()
	check("behind Abort")
	k.free(10, 11)
	k.begin()
	k.blocks(span(k.p.Data, k.p.Blocks)...)
	k.inodes(span(1, 12)...)
	k.commit()
	check("behind Commit, all is taken")
	k.free(0, 0)
}

// TestFullTransaction: ErrBig, where the map's block would be the 61st one, and nothing has happened; not where it is among the 60.
func TestFullTransaction(t *testing.T) {
	k := made(t, 13000, 100)
	data := k.p.Data
	k.begin()
	k.blocks(span(data, data+4097)...)
	k.inodes(1, 2)
	k.commit()

	k.begin()
	k.write(data, junk(60*api.Block))
	unchanged := k.same()
	k.noBlock(api.ErrBig)
	k.noInode(api.ErrBig)
	k.must("P7.1: GiveBlock of a full transaction", k.a.GiveBlock(data), api.ErrBig)
	k.must("P7.1: GiveInode of a full transaction", k.a.GiveInode(1), api.ErrBig)
	k.must("P7.1: Format of a full transaction", k.a.Format(), api.ErrBig)
	unchanged("a call with ErrBig")
	k.abort()

	// The second block of the map of data blocks is among the 60, the first and the map of inodes are not.
	k.begin()
	k.write(data, junk(59*api.Block))
	k.blocks(data + 4097)
	unchanged = k.same()
	k.noInode(api.ErrBig)
	k.must("P7.1: GiveBlock by another block of the map", k.a.GiveBlock(data+4095), api.ErrBig)
	k.must("P7.1: GiveInode of a full transaction", k.a.GiveInode(2), api.ErrBig)
	unchanged("a call with ErrBig")
	k.blocks(data+4098, data+4099)
	k.giveBlocks(data+4096, data+4098)
	k.blocks(data + 4096)
	k.free(k.p.DataCount-4099, 97)
	k.commit()
	k.free(k.p.DataCount-4099, 97)

	// The map of inodes is among the 60.
	k.begin()
	k.inodes(3)
	k.write(data, junk(59*api.Block))
	k.giveInodes(1, 3)
	k.inodes(1, 3, 4)
	unchanged = k.same()
	k.noBlock(api.ErrBig)
	k.must("P7.1: GiveBlock of a full transaction", k.a.GiveBlock(data+4096), api.ErrBig)
	unchanged("a call with ErrBig")
	k.commit()
	k.free(k.p.DataCount-4099, 95)
}

// TestNearlyFull: with 59 blocks there is room for one, whichever call comes first.
func TestNearlyFull(t *testing.T) {
	k := made(t, 1000, 64)
	k.begin()
	k.blocks(k.p.Data)
	k.inodes(1)
	k.commit()
	for what, call := range map[string]func() api.Errno{
		"TakeBlock": func() api.Errno { _, e := k.a.TakeBlock(); return e },
		"TakeInode": func() api.Errno { _, e := k.a.TakeInode(); return e },
		"GiveBlock": func() api.Errno { return k.a.GiveBlock(k.p.Data) },
		"GiveInode": func() api.Errno { return k.a.GiveInode(1) },
	} {
		k.begin()
		k.write(k.p.Data, junk(59*api.Block))
		k.must("P7.1: "+what+" as the 60th block", call(), api.OK)
		if k.c.Dirty() != 60 {
			t.Errorf("P7.1: %s wrote %d blocks", what, k.c.Dirty()-59)
		}
		k.abort()
	}
}

// TestWhichErrorFirst: ErrFull and ErrArg ahead of ErrBig.
func TestWhichErrorFirst(t *testing.T) {
	k := made(t, 330, 12)
	k.begin()
	k.blocks(span(k.p.Data, k.p.Blocks)...)
	k.inodes(span(1, 12)...)
	k.commit()
	k.begin()
	k.write(k.p.Data, junk(60*api.Block))
	unchanged := k.same()
	k.noBlock(api.ErrFull)
	k.noInode(api.ErrFull)
	k.refused("of a full transaction", noBlocks(k.p), noInodes(k.p))
	k.must("P7.1: GiveBlock of a full transaction", k.a.GiveBlock(k.p.Data), api.ErrBig)
	k.must("P7.1: GiveInode of a full transaction", k.a.GiveInode(11), api.ErrBig)
	unchanged("calls of a full transaction")
	k.abort()

	k = made(t, 330, 12)
	k.begin()
	k.write(k.p.Data, junk(60*api.Block))
	k.refused("of a full transaction", span(k.p.Data, k.p.Blocks), span(0, 12))
	k.noBlock(api.ErrBig)
	k.noInode(api.ErrBig)
}

// TestNobody: a nil Alloc, a zero one, and those whose cache is nobody's.
func TestNobody(t *testing.T) {
	k := made(t, 260, 12)
	all := map[string]*alloc.Alloc{
		"nil": nil, "zero": {}, "of a nil cache": alloc.New(nil, k.p), "of a zero cache": alloc.New(&cache.Cache{}, k.p), "of a cache of nobody": alloc.New(cache.New(nil), k.p),
	}
	for what, a := range all {
		for range 2 {
			n := &kit{t, k.d, k.c, a, k.p}
			n.must("P7.3: "+what+": Format()", a.Format(), api.ErrState)
			n.noBlock(api.ErrState)
			n.noInode(api.ErrState)
			for _, b := range append(noBlocks(k.p), k.p.Data, 259) {
				n.must("P7.3: "+what+": GiveBlock", a.GiveBlock(b), api.ErrState)
			}
			for _, i := range append(noInodes(k.p), 1, 11) {
				n.must("P7.3: "+what+": GiveInode", a.GiveInode(i), api.ErrState)
			}
			n.free(0, 0)
		}
	}
	k.free(10, 11)
}

// TestZeroJournal: a transaction may be open, but there are no maps.
func TestZeroJournal(t *testing.T) {
	k := made(t, 260, 12)
	c := cache.New(&journal.Journal{})
	n := &kit{t, k.d, c, alloc.New(c, k.p), k.p}
	n.begin()
	n.must("Format() without maps", n.a.Format(), api.ErrArg)
	n.noBlock(api.ErrArg)
	n.noInode(api.ErrArg)
	n.must("GiveBlock without maps", n.a.GiveBlock(k.p.Data), api.ErrArg)
	n.must("GiveInode without maps", n.a.GiveInode(1), api.ErrArg)
	n.free(0, 0)
	if c.Dirty() != 0 {
		t.Errorf("without maps %d blocks were written", c.Dirty())
	}
}

// TestOddPlans: of what Make did not tell nothing is promised, but that each call ends, without a panic, and changes nothing with an error.
func TestOddPlans(t *testing.T) {
	k := made(t, 260, 12)
	odd := []int{math.MinInt, -4097, 0, 1, 245, 247, 259, 4096, 1 << 20, math.MaxInt}
	fields := []func(p *api.Plan) *int{
		func(p *api.Plan) *int { return &p.InodeMap }, func(p *api.Plan) *int { return &p.BlockMap }, func(p *api.Plan) *int { return &p.Table },
		func(p *api.Plan) *int { return &p.Data }, func(p *api.Plan) *int { return &p.DataCount }, func(p *api.Plan) *int { return &p.Inodes },
	}
	for i, f := range fields {
		for _, g := range fields[i:] {
			for j := range len(odd) * len(odd) {
				p := k.p
				*f(&p), *g(&p) = odd[j/len(odd)], odd[j%len(odd)]
				k.ends(p, odd)
			}
		}
	}
	k.ends(api.Plan{}, odd)
	k.free(k.p.DataCount, 11)
}

// ends is all calls of an Alloc of that plan.
func (k *kit) ends(p api.Plan, numbers []int) {
	k.t.Helper()
	a := alloc.New(k.c, p)
	calls := []func() api.Errno{
		a.Format,
		func() api.Errno { _, e := a.TakeBlock(); return e },
		func() api.Errno { _, e := a.TakeInode(); return e },
	}
	for _, v := range append(numbers, p.Data, p.Data+1) {
		calls = append(calls, func() api.Errno { return a.GiveBlock(v) }, func() api.Errno { return a.GiveInode(v) })
	}
	k.begin()
	before, dirty := k.read(api.Journal, k.p.Blocks), k.c.Dirty()
	for _, call := range calls {
		if b, i := a.Free(); b < 0 || i < 0 {
			k.t.Errorf("of the plan %v Free() = %d %d", p, b, i)
		}
		e := call()
		after := k.read(api.Journal, k.p.Blocks)
		if e != api.OK && (!bytes.Equal(after, before) || k.c.Dirty() != dirty) {
			k.t.Errorf("of the plan %v a call with error %d changed something", p, e)
		}
		before, dirty = after, k.c.Dirty()
	}
	k.abort()
}
