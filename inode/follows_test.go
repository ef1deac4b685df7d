package inode_test

import (
	"bytes"
	"maps"
	"math"
	"slices"
	"testing"

	"bollard/api"
	"bollard/inode"
)

// TestHandedInIsNotChanged: neither its bytes nor its spare room.
func TestHandedInIsNotChanged(t *testing.T) {
	for _, n := range []int{0, 1, 511, 512, 513, 5120, 6000, 80000} {
		k, _ := fileOf(t, 700)
		whole := text(3, n+1000)
		want := slices.Clone(whole)
		k.begin()
		for _, at := range []int{0, 300, 512, 700, 701, -1} {
			k.s.Write(1, at, whole[:n])
			k.s.Write(2, at, whole[:n])
			if !bytes.Equal(whole, want) {
				t.Fatalf("P8.6: Write at %d changed the %d bytes that were handed in, or those behind them", at, n)
			}
		}
	}
}

// TestHandedInIsNotKept: it may be overwritten behind the call.
func TestHandedInIsNotKept(t *testing.T) {
	for _, n := range []int{1, 512, 513, 5120, 6000, 12000} {
		k := made(t, 600, 12)
		k.begin()
		k.make(1, 1)
		b := text(3, n)
		k.write(1, 0, b)
		clear(b)
		k.holds(1, text(3, n))
		k.commit()
		for i := range b {
			b[i] = 99
		}
		k.holds(1, text(3, n))
	}
}

// TestAnsweredIsNew: it may be overwritten, and appended to, without a change of the file or of another answer.
func TestAnsweredIsNew(t *testing.T) {
	for _, open := range []bool{false, true} {
		for _, n := range []int{1, 512, 513, 6000} {
			k, want := fileOf(t, n)
			if open {
				k.begin()
				k.write(1, 0, want)
			}
			for _, at := range []int{0, n / 2, n - 1} {
				one, _ := k.s.Read(1, at, n)
				other, _ := k.s.Read(1, at, n)
				clear(one)
				_ = append(one, make([]byte, 600)...)
				clear(one[:cap(one)])
				if !bytes.Equal(other, want[at:]) {
					t.Fatal("P8.6: two answers share memory")
				}
				k.holds(1, want)
			}
			if open {
				k.commit()
			}
			k.holds(1, want)
		}
	}
}

// TestOthersSeeTheSame: a Store that is made on the same cache, or behind a crash, tells the same: nothing is kept in a Store itself.
func TestOthersSeeTheSame(t *testing.T) {
	k, b := fileOf(t, 9000)
	other := &kit{t, k.d, k.c, k.a, inode.New(k.c, k.a, k.p), k.p}
	other.holds(1, b)
	k.begin()
	k.write(1, 5000, []byte("abc"))
	k.make(2, 2)
	other.holds(1, lay(b, 5000, []byte("abc")))
	other.stat(2, 2, 0)
	other.write(2, 0, b[:600])
	k.holds(2, b[:600])
	gone := on(t, k.d.Crash(nil), k.p)
	gone.holds(1, b)
	gone.none(2)
	k.commit()
	kept := on(t, k.d.Crash(nil), k.p)
	kept.holds(1, lay(b, 5000, []byte("abc")))
	kept.holds(2, b[:600])
	kept.stat(2, 2, 600)
}

// TestCutCommit: what a transaction that the power cuts off did is there wholly or not at all.
func TestCutCommit(t *testing.T) {
	old, b := fileOf(t, 6000)
	old.step(func() {
		old.make(1, 2)
		old.write(2, 0, text(2, 6000))
	})
	want := lay(b, 5900, text(5, 1000))
	seen := [2]int{}
	for cutAt := range 80 {
		for _, picks := range [][]int{nil, {1}, {0, 1}, {1, 1, 1, 1, 1, 1, 1, 1, 1, 1, 1}} {
			k := on(t, old.d.Copy(), old.p)
			k.begin()
			k.drop(2)
			k.write(1, 5900, text(5, 1000))
			k.make(2, 2)
			k.truncate(2, 600)
			k.d.Cut(cutAt)
			e := k.c.Commit()
			k = on(t, k.d.Crash(picks), k.p)
			st, _ := k.s.Stat(2)
			switch {
			case st.Kind == 2:
				seen[1]++
				k.holds(1, want)
				k.holds(2, make([]byte, 600))
				k.free(k.p.DataCount-has(6900)-has(600), 9)
			case e == api.OK:
				t.Fatalf("P8.6: a Commit that was OK is gone behind a crash")
			default:
				seen[0]++
				k.holds(1, b)
				k.holds(2, text(2, 6000))
				k.free(k.p.DataCount-2*has(6000), 9)
			}
		}
	}
	if seen[0] == 0 || seen[1] == 0 {
		t.Errorf("the cuts left all %d times, nothing %d times", seen[1], seen[0])
	}
}

// TestWithoutPower: all is in the transaction, which needs none.
func TestWithoutPower(t *testing.T) {
	k, b := fileOf(t, 6000)
	k.d.Cut(0)
	k.begin()
	k.make(1, 2)
	k.write(2, 0, text(2, 6000))
	k.holds(2, text(2, 6000))
	k.truncate(1, 7)
	k.drop(2)
	k.must("P8.1: Format()", k.s.Format(), api.OK)
	k.none(1)
	k.must("Commit()", k.c.Commit(), api.ErrOff)
	k.holds(1, b)
	k.none(2)
}

// plain is a file as plain bytes. They are never changed: each change makes new ones.
type plain struct {
	kind int
	b    []byte
}

// play is a kit beside plain files.
type play struct {
	*kit
	x         dice
	kept, now map[int]plain
	count     count
	seen      map[string]int
}

// left is how many blocks must be free.
func (p *play) left() int {
	n := p.p.DataCount
	for _, f := range p.now {
		n -= has(len(f.b))
	}
	return n
}

// answer holds an error against the one that is asked for, which is refused for the transaction's size only beyond P8.4's bounds; it is whether it was done.
func (p *play) answer(what string, got, want api.Errno) bool {
	p.t.Helper()
	if want == api.OK && got == api.ErrBig && !p.count.within() {
		p.seen["too great"]++
		p.abort()
		p.now, p.count = maps.Clone(p.kept), newCount()
		return false
	}
	if got != want {
		p.t.Fatalf("P8.4: %s = %d, want %d", what, got, want)
	}
	p.seen[what]++
	return got == api.OK
}

// turn is the begin or the end of a transaction.
func (p *play) turn() {
	p.t.Helper()
	switch {
	case !p.c.Open():
		p.begin()
		p.count = newCount()
	case p.x.below(4) == 0:
		p.abort()
		p.now = maps.Clone(p.kept)
	default:
		p.commit()
		p.kept = maps.Clone(p.now)
	}
}

// any is an inode's number, mostly of one that is there.
func (p *play) any() int {
	if l := slices.Sorted(maps.Keys(p.now)); p.x.below(8) > 0 {
		return l[p.x.below(len(l))]
	}
	return p.x.below(p.p.Inodes+4) - 2
}

// refusal is the error of a change of an inode that must come ahead of those of its other arguments; 0: none.
func (p *play) refusal(i int) api.Errno {
	if !p.c.Open() {
		return api.ErrState
	}
	if _, ok := p.now[i]; !ok {
		return api.ErrNone
	}
	return api.OK
}

func (p *play) make() {
	p.t.Helper()
	kind, least := p.x.below(4), 1
	for p.now[least].kind > 0 {
		least++
	}
	want := api.OK
	switch {
	case !p.c.Open():
		want = api.ErrState
	case kind%3 == 0:
		want = api.ErrArg
	case least == p.p.Inodes:
		want = api.ErrFull
	default:
		p.count.touch(least, 0, 0, 0, 0)
	}
	i, e := p.s.Make(kind)
	if p.answer("Make", e, want) {
		if i != least {
			p.t.Fatalf("P8.1: Make(%d) = %d, want %d", kind, i, least)
		}
		p.now[i] = plain{kind: kind}
	} else if i != 0 {
		p.t.Fatalf("P8.1: Make(%d) = %d %d", kind, i, e)
	}
}

func (p *play) drop() {
	p.t.Helper()
	i := p.any()
	want := p.refusal(i)
	if want == api.OK && i == 0 {
		want = api.ErrArg
	}
	if p.answer("Drop", p.s.Drop(i), want) {
		delete(p.now, i)
	}
}

// sized is the error of a file that would have that size.
func (p *play) sized(i, size int) api.Errno {
	if size > api.MaxFile {
		return api.ErrBig
	}
	if has(size)-has(len(p.now[i].b)) > p.left() {
		return api.ErrFull
	}
	return api.OK
}

func (p *play) write() {
	p.t.Helper()
	i := p.any()
	f := p.now[i]
	at, more := p.x.below(len(f.b)+1), text(p.x.below(1000), p.x.below(1+p.x.below(8000)))
	switch p.x.below(10) {
	case 0:
		at = len(f.b) + 1 + p.x.below(600)
	case 1:
		at = -1 - p.x.below(600)
	case 2, 3, 4:
		at = len(f.b)
	case 5:
		more = text(1, api.MaxFile+1-at+p.x.below(9))
	}
	want := p.refusal(i)
	if want == api.OK {
		if at < 0 || at > len(f.b) {
			want = api.ErrArg
		} else {
			want = p.sized(i, max(len(f.b), at+len(more)))
		}
	}
	if want == api.OK {
		p.count.touch(i, at, at+len(more), len(f.b), max(len(f.b), at+len(more)))
	}
	if p.answer("Write", p.s.Write(i, at, more), want) {
		p.now[i] = plain{f.kind, lay(f.b, at, more)}
	}
}

func (p *play) truncate() {
	p.t.Helper()
	i := p.any()
	f := p.now[i]
	size := p.x.below(12000)
	switch p.x.below(8) {
	case 0:
		size = len(f.b) - p.x.below(700)
	case 1:
		size = len(f.b) + p.x.below(700)
	case 2:
		size = api.MaxFile - 2 + p.x.below(5)
	case 3:
		size = p.x.below(len(f.b) + 1)
	}
	want := p.refusal(i)
	if want == api.OK {
		if size < 0 {
			want = api.ErrArg
		} else {
			want = p.sized(i, size)
		}
	}
	if want == api.OK && size > len(f.b) {
		p.count.touch(i, size, size, len(f.b), size)
	}
	if p.answer("Truncate", p.s.Truncate(i, size), want) {
		p.now[i] = plain{f.kind, cut(f.b, size)}
	}
}

// look reads somewhere.
func (p *play) look() {
	p.t.Helper()
	i := p.any()
	f, ok := p.now[i]
	at, n := p.x.below(len(f.b)+600), p.x.below(9000)
	if !ok {
		p.none(i)
		p.noRead(i, at-5, n, api.ErrNone)
		return
	}
	p.stat(i, f.kind, len(f.b))
	from := min(at, len(f.b))
	p.read(i, at, n, f.b[from:min(from+n, len(f.b))])
}

// whole holds all against the plain files.
func (p *play) whole() {
	p.t.Helper()
	for i := -1; i <= p.p.Inodes; i++ {
		if f, ok := p.now[i]; ok {
			p.stat(i, f.kind, len(f.b))
			p.read(i, 0, math.MaxInt, f.b)
		} else {
			p.none(i)
		}
	}
	p.free(p.left(), p.p.Inodes-len(p.now))
}

// crash goes on behind one that leaves what was committed.
func (p *play) crash() {
	p.t.Helper()
	picks := make([]int, 300)
	for i := range picks {
		picks[i] = p.x.below(5)
	}
	p.kit = on(p.t, p.d.Crash(picks), p.p)
	p.now = maps.Clone(p.kept)
}

// TestPlay: whatever is done, files are what plain bytes are, with so many blocks.
func TestPlay(t *testing.T) {
	seen := map[string]int{}
	for seed, size := range [][2]int{{300, 8}, {420, 12}, {800, 20}, {4600, 40}, {265, 3}, {900, 150}} {
		for again := range 3 {
			p := &play{kit: made(t, size[0], size[1]), x: dice(seed*10 + again), kept: map[int]plain{0: {kind: 2}}, count: newCount(), seen: seen}
			p.now = maps.Clone(p.kept)
			for n := range 1500 {
				switch p.x.below(14) {
				case 0, 1:
					p.make()
				case 2:
					p.drop()
				case 3, 4, 5, 6:
					p.write()
				case 7, 8:
					p.truncate()
				case 9, 10:
					p.look()
				default:
					p.turn()
				}
				if n%50 == 0 {
					p.whole()
				}
				if n%100 == 99 {
					p.crash()
				}
			}
			p.whole()
		}
	}
	for _, what := range []string{"Make", "Drop", "Write", "Truncate", "too great"} {
		if seen[what] == 0 {
			t.Errorf("the play saw no %s", what)
		}
	}
}
