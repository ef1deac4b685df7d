package alloc_test

import (
	"maps"
	"slices"
	"testing"

	"bollard/alloc"
	"bollard/api"
)

// TestCommitAndAbort: what a committed transaction took stays taken, what it gave is free; of an aborted one there is nothing. Another Alloc of the same cache sees the same, and so does one behind a crash.
func TestCommitAndAbort(t *testing.T) {
	k := made(t, 5000, 100)
	data, all := k.p.Data, k.p.DataCount
	check := func(blocks, inodes int) {
		t.Helper()
		k.free(blocks, inodes)
		other := &kit{t, k.d, k.c, alloc.New(k.c, k.p), k.p}
		other.free(blocks, inodes)
		if !k.c.Open() {
			on(t, k.d.Crash(nil), k.p).free(blocks, inodes)
		}
	}
	check(all, 99)
	k.begin()
	k.blocks(span(data, data+4099)...)
	k.inodes(1, 2, 3)
	check(all-4099, 96)
	on(t, k.d.Crash(nil), k.p).free(all, 99)
	k.abort()
	check(all, 99)
	k.begin()
	k.blocks(span(data, data+4098)...)
	k.inodes(1, 2)
	k.commit()
	check(all-4098, 97)
	k.begin()
	k.giveBlocks(data+1, data+4096)
	k.giveInodes(1)
	check(all-4096, 98)
	k.abort()
	check(all-4098, 97)
	k.begin()
	k.blocks(data + 4098)
	k.inodes(3)
	k.giveBlocks(data + 5)
	k.giveInodes(2)
	k.commit()
	check(all-4098, 97)
	k.a = alloc.New(k.c, k.p)
	k.begin()
	k.refused("what an Alloc ahead gave", []int{data + 5, data + 4099}, []int{2, 4})
	k.blocks(data+5, data+4099)
	k.inodes(2, 4)
	k.giveBlocks(data + 4098)
	k.giveInodes(3)
	k.commit()
	check(all-4099, 96)
}

// TestCutCommit: a transaction that the power cuts off took all that it took, or nothing.
func TestCutCommit(t *testing.T) {
	fresh := made(t, 5000, 100)
	seen := [2]int{}
	for cut := range 20 {
		for _, picks := range [][]int{nil, {1}, {0, 1}, {1, 1, 1, 1, 1, 1}} {
			k := on(t, fresh.d.Copy(), fresh.p)
			k.begin()
			k.blocks(span(k.p.Data, k.p.Data+4099)...)
			k.inodes(1, 2)
			k.d.Cut(cut)
			e := k.c.Commit()
			b, i := on(t, k.d.Crash(picks), k.p).a.Free()
			took, none := b == k.p.DataCount-4099 && i == 97, b == k.p.DataCount && i == 99
			if !took && (e == api.OK || !none) {
				t.Errorf("P7.1: a Commit cut behind %d ops, error %d, left %d blocks and %d inodes free", cut, e, b, i)
			}
			if took {
				seen[1]++
			} else {
				seen[0]++
			}
		}
	}
	if seen[0] == 0 || seen[1] == 0 {
		t.Errorf("the cuts left all %d times, nothing %d times", seen[1], seen[0])
	}
}

// TestWithoutPower: all is in the transaction, which needs none.
func TestWithoutPower(t *testing.T) {
	k := made(t, 260, 12)
	k.d.Cut(0)
	k.begin()
	k.blocks(k.p.Data, k.p.Data+1)
	k.inodes(1)
	k.giveBlocks(k.p.Data)
	k.free(9, 10)
	k.must("P7.1: Format()", k.a.Format(), api.OK)
	k.free(10, 11)
	k.blocks(k.p.Data)
	k.must("Commit()", k.c.Commit(), api.ErrOff)
	k.free(10, 11)
}

// dice are numbers without a pattern, the same ones at each run.
type dice uint64

func (x *dice) below(n int) int {
	*x = *x*6364136223846793005 + 1442695040888963407
	return int(uint64(*x) >> 33 % uint64(n))
}

// state is what is taken.
type state struct {
	blocks, inodes map[int]struct{}
}

func (s state) clone() state {
	return state{maps.Clone(s.blocks), maps.Clone(s.inodes)}
}

// play is a kit beside plain sets of what must be taken.
type play struct {
	*kit
	x       dice
	kept    state // what is committed
	now     state
	written map[int]struct{} // blocks of the transaction
	big     int              // how often it had no room
}

// room is whether a block may be written, which it is then.
func (p *play) room(home int) bool {
	if _, again := p.written[home]; !again && len(p.written) == 60 {
		p.big++
		return false
	}
	p.written[home] = struct{}{}
	return true
}

// least is the first number from one up to another that is not in a set; -1: all are.
func least(set map[int]struct{}, from, to int) int {
	for i := from; i < to; i++ {
		if _, ok := set[i]; !ok {
			return i
		}
	}
	return -1
}

func (p *play) blockHome(b int) int { return p.p.BlockMap + (b-p.p.Data)/4096 }

func (p *play) takeBlock() {
	p.t.Helper()
	b := least(p.now.blocks, p.p.Data, p.p.Blocks)
	switch {
	case !p.c.Open():
		p.noBlock(api.ErrState)
	case b < 0:
		p.noBlock(api.ErrFull)
	case !p.room(p.blockHome(b)):
		p.noBlock(api.ErrBig)
	default:
		p.blocks(b)
		p.now.blocks[b] = struct{}{}
	}
}

func (p *play) takeInode() {
	p.t.Helper()
	i := least(p.now.inodes, 1, p.p.Inodes)
	switch {
	case !p.c.Open():
		p.noInode(api.ErrState)
	case i < 0:
		p.noInode(api.ErrFull)
	case !p.room(p.p.InodeMap):
		p.noInode(api.ErrBig)
	default:
		p.inodes(i)
		p.now.inodes[i] = struct{}{}
	}
}

// give holds a give of a number that is in a set or not against the sets.
func (p *play) give(what string, call func(int) api.Errno, set map[int]struct{}, number, home int) {
	p.t.Helper()
	want := api.OK
	_, taken := set[number]
	switch {
	case !p.c.Open():
		want = api.ErrState
	case !taken:
		want = api.ErrArg
	case !p.room(home):
		want = api.ErrBig
	default:
		delete(set, number)
	}
	p.must(what, call(number), want)
}

// format is a Format, which needs room for all blocks of the maps.
func (p *play) format() {
	p.t.Helper()
	if !p.c.Open() {
		p.must("P7.1: Format()", p.a.Format(), api.ErrState)
		return
	}
	with := maps.Clone(p.written)
	for home := p.p.InodeMap; home < p.p.Table; home++ {
		with[home] = struct{}{}
	}
	if len(with) > 60 {
		p.must("P7.1: Format()", p.a.Format(), api.ErrBig)
		return
	}
	p.must("P7.1: Format()", p.a.Format(), api.OK)
	p.written = with
	clear(p.now.blocks)
	clear(p.now.inodes)
}

// fill writes data blocks, so that the transaction comes to its end.
func (p *play) fill() {
	p.t.Helper()
	for range p.x.below(300) {
		k := p.p.Data + p.x.below(min(70, p.p.DataCount))
		if p.c.Open() && len(p.written) < 60 && p.room(k) {
			p.must("Write", p.c.Write(k, junk(api.Block)), api.OK)
		}
	}
}

// end ends a transaction; where there is none it begins one.
func (p *play) end(commits bool) {
	p.t.Helper()
	switch {
	case !p.c.Open():
		p.begin()
		p.written = map[int]struct{}{}
		if p.x.below(2) == 0 {
			p.fill()
		}
		return
	case commits:
		p.commit()
		p.kept = p.now.clone()
	default:
		p.abort()
		p.now = p.kept.clone()
	}
	p.written = map[int]struct{}{}
}

// again goes on with another Alloc of the same cache, or with what a crash leaves.
func (p *play) again() {
	p.t.Helper()
	if p.x.below(2) == 0 {
		p.a = alloc.New(p.c, p.p)
		return
	}
	p.kit = on(p.t, p.d.Crash(nil), p.p)
	p.now, p.written = p.kept.clone(), map[int]struct{}{}
}

func (p *play) step() {
	p.t.Helper()
	number, inode := p.p.Data-2+p.x.below(p.p.DataCount+4), p.x.below(p.p.Inodes+3)-1
	switch p.x.below(60) {
	case 0:
		p.format()
	case 1, 2:
		p.fill()
	case 3:
		p.again()
	case 4, 5, 6:
		p.end(true)
	case 7:
		p.end(false)
	case 8, 9, 10, 11, 12, 13, 14, 15, 16, 17:
		p.give("P7.1: GiveBlock", p.a.GiveBlock, p.now.blocks, number, p.blockHome(number))
	case 18, 19, 20, 21, 22, 23, 24, 25, 26, 27:
		p.give("P7.1: GiveInode", p.a.GiveInode, p.now.inodes, inode, p.p.InodeMap)
	case 28, 29, 30, 31, 32, 33, 34, 35, 36, 37:
		p.takeInode()
	case 38, 39:
		for range p.x.below(p.p.DataCount + 3) {
			p.takeBlock()
		}
	default:
		p.takeBlock()
	}
}

// TestPlays: what is taken is never taken again until it was given; Free's numbers go down and up by one.
func TestPlays(t *testing.T) {
	shapes := [][2]int{{250, 1}, {260, 12}, {330, 2}, {330, 60}, {400, 9}, {4346, 8}, {4360, 30}}
	big, full := 0, 0
	for seed := range 35 {
		s := shapes[seed%len(shapes)]
		p := &play{kit: made(t, s[0], s[1]), x: dice(seed), kept: state{map[int]struct{}{}, map[int]struct{}{}}}
		p.now = p.kept.clone()
		for range 300 {
			p.step()
			if len(p.now.blocks) == p.p.DataCount {
				full++
			}
			p.free(p.p.DataCount-len(p.now.blocks), p.p.Inodes-1-len(p.now.inodes))
			if p.c.Dirty() != len(p.written) {
				t.Fatalf("P7.1: in the play %d: the transaction has %d blocks, want %d", seed, p.c.Dirty(), len(p.written))
			}
		}
		big += p.big
	}
	if big < 50 || full < 50 {
		t.Errorf("the plays had no room %d times, no free block %d times", big, full)
	}
}

// TestOnce: of many takes and gives no number is there twice at a time, and each call moves Free by one.
func TestOnce(t *testing.T) {
	k, x := made(t, 8500, 300), dice(3)
	k.begin()
	for _, m := range []struct {
		what  string
		limit int
		take  func() (int, api.Errno)
		give  func(int) api.Errno
		free  func() int
	}{
		{"block", k.p.DataCount, k.a.TakeBlock, k.a.GiveBlock, func() int { b, _ := k.a.Free(); return b }},
		{"inode", k.p.Inodes - 1, k.a.TakeInode, k.a.GiveInode, func() int { _, i := k.a.Free(); return i }},
	} {
		var taken []int
		for range 3 * m.limit {
			before := m.free()
			if before != m.limit-len(taken) {
				t.Fatalf("P7.2: %d are free of %d, %d are taken", before, m.limit, len(taken))
			}
			if len(taken) > 0 && (x.below(3) == 0 || before == 0) {
				i := x.below(len(taken))
				if e := m.give(taken[i]); e != api.OK || m.free() != before+1 {
					t.Fatalf("P7.2: a give of %s %d = %d: %d free, then %d", m.what, taken[i], e, before, m.free())
				}
				taken = slices.Delete(taken, i, i+1)
				continue
			}
			n, e := m.take()
			if e != api.OK || m.free() != before-1 || slices.Contains(taken, n) {
				t.Fatalf("P7.2: a take of a %s = %d %d: %d free, then %d; it was taken: %v", m.what, n, e, before, m.free(), slices.Contains(taken, n))
			}
			taken = append(taken, n)
		}
	}
	k.commit()
}
