package dir_test

import (
	"maps"
	"slices"
	"testing"

	"bollard/api"
	"bollard/dir"
)

// TestCommitAndAbort: what a transaction that is committed did stays, also behind a crash; what an aborted one did is undone.
func TestCommitAndAbort(t *testing.T) {
	k := made(t, 600, 12)
	p := plain{{Name: "a", Inode: 1}, {Name: "b", Inode: 2}, {Name: "c", Inode: 3}}
	k.step(func() {
		for _, e := range p {
			k.add(0, e.Name, e.Inode, api.OK)
		}
	})
	change := func() plain {
		k.remove(0, "b", api.OK)
		k.move(0, "c", 9, api.OK)
		k.add(0, "d", 4, api.OK)
		k.add(0, "e", 5, api.OK)
		return plain{{Name: "a", Inode: 1}, {Name: "d", Inode: 4}, {Name: "c", Inode: 9}, {Name: "e", Inode: 5}}
	}
	k.begin()
	q := change()
	k.holds(0, q)
	on(t, k.d.Crash(nil), k.p).holds(0, p)
	k.abort()
	k.holds(0, p)
	k.begin()
	change()
	k.commit()
	k.holds(0, q)
	on(t, k.d.Crash(nil), k.p).holds(0, q)
}

// TestCutCommit: of a transaction that the power cuts off all is there, or nothing.
func TestCutCommit(t *testing.T) {
	old := made(t, 600, 12)
	p := plain{{Name: "a", Inode: 1}, {Name: "b", Inode: 2}}
	old.step(func() {
		old.add(0, "a", 1, api.OK)
		old.add(0, "b", 2, api.OK)
	})
	var q plain
	seen := [2]int{}
	for cutAt := range 30 {
		for _, picks := range [][]int{nil, {1}, {0, 1}, {1, 1, 1, 1, 1, 1, 1, 1}} {
			k := on(t, old.d.Copy(), old.p)
			k.begin()
			k.remove(0, "a", api.OK)
			k.move(0, "b", 7, api.OK)
			q = plain{{}, {Name: "b", Inode: 7}}
			for i := range 12 {
				k.add(0, name(i), i, api.OK)
				q = q.add(name(i), i)
			}
			k.d.Cut(cutAt)
			e := k.c.Commit()
			k = on(t, k.d.Crash(picks), k.p)
			st, _ := k.s.Stat(0)
			switch {
			case st.Size == 64*len(q):
				k.holds(0, q)
				seen[1]++
			case e == api.OK:
				t.Fatal("P9.3: what was committed is gone")
			default:
				k.holds(0, p)
				seen[0]++
			}
		}
	}
	if seen[0] == 0 || seen[1] == 0 {
		t.Errorf("the cuts left all %d times, nothing %d times", seen[1], seen[0])
	}
}

// TestAnsweredIsNew: what was answered may be overwritten without a change of the directory, or of another answer.
func TestAnsweredIsNew(t *testing.T) {
	k := made(t, 600, 12)
	p := plain{{Name: "a", Inode: 1}, {Name: "b", Inode: 2}, {Name: "c", Inode: 3}}
	k.begin()
	for _, e := range p {
		k.add(0, e.Name, e.Inode, api.OK)
	}
	for range 2 {
		one, _ := dir.List(k.s, 0)
		other, _ := dir.List(k.s, 0)
		for i := range one {
			one[i] = dir.Entry{Name: "x", Inode: 99}
		}
		_ = append(one, dir.Entry{Name: "y"})
		if !slices.Equal(other, p.list()) {
			t.Fatal("P9.2: two answers share memory")
		}
		k.holds(0, p)
		k.c.Commit()
	}
	k.holds(0, p)
}

// TestOthersSeeTheSame: nothing is kept beside the directory's bytes.
func TestOthersSeeTheSame(t *testing.T) {
	k := made(t, 600, 12)
	k.begin()
	k.add(0, "a", 1, api.OK)
	other := k.make(2)
	k.must("inode.Write", k.s.Write(other, 0, k.bytes(0)), api.OK)
	k.find(other, "a", 1)
	k.move(0, "a", 2, api.OK)
	k.find(other, "a", 1)
	k.must("inode.Truncate", k.s.Truncate(0, 0), api.OK)
	k.holds(0, nil)
	k.add(0, "b", 1, api.OK)
	k.commit()
	k.holds(0, plain{{Name: "b", Inode: 1}})
	k.holds(other, plain{{Name: "a", Inode: 1}})
}

// play is a kit beside plain directories.
type play struct {
	*kit
	x         dice
	kept, now map[int]plain
	seen      map[string]int
}

// refusal is the error of a call that must come ahead of those of its name's place; 0: none.
func (p *play) refusal(changes bool, d int, s string) api.Errno {
	_, ok := p.now[d]
	switch {
	case changes && !p.c.Open():
		return api.ErrState
	case !dir.Name(s):
		return api.ErrArg
	case d == 1:
		return api.ErrKind
	case !ok:
		return api.ErrNone
	}
	return api.OK
}

// call is one of the calls, on any directory and any name.
func (p *play) call() {
	p.t.Helper()
	d, s, i := p.x.below(6)-1, name(p.x.below(30)), p.x.below(1000)
	if p.x.below(20) == 0 {
		s = bad()[p.x.below(len(bad()))]
	}
	slot := p.now[d].at(s)
	kind := p.x.below(6)
	want := p.refusal(kind > 1, d, s)
	there := want == api.OK && slot >= 0
	if want == api.OK && slot < 0 {
		want = api.ErrNone
	}
	switch kind {
	case 0, 1:
		if there {
			p.find(d, s, p.now[d][slot].Inode)
		} else {
			p.noFind(d, s, want)
		}
	case 2, 3:
		if there {
			want = api.ErrExist
		} else if want == api.ErrNone && p.now[d] != nil {
			want = api.OK
			p.now[d] = p.now[d].add(s, i)
		}
		p.add(d, s, i, want)
	case 4:
		p.remove(d, s, want)
		if there {
			p.now[d] = p.now[d].set(slot, dir.Entry{})
		}
	case 5:
		p.move(d, s, i, want)
		if there {
			p.now[d] = p.now[d].set(slot, dir.Entry{Name: s, Inode: i})
		}
	}
	p.seen[[]string{"Find", "Find", "Add", "Add", "Remove", "Move"}[kind]+map[bool]string{true: " done"}[want == api.OK]]++
}

// turn is the begin or the end of a transaction.
func (p *play) turn() {
	p.t.Helper()
	switch {
	case !p.c.Open():
		p.begin()
	case p.x.below(4) == 0:
		p.abort()
		p.now = maps.Clone(p.kept)
	default:
		p.commit()
		p.kept = maps.Clone(p.now)
	}
}

// whole holds all directories against the plain ones.
func (p *play) whole() {
	p.t.Helper()
	for d, l := range p.now {
		p.holds(d, l)
	}
	p.noList(1, api.ErrKind)
	p.noList(4, api.ErrNone)
}

// TestPlay: whatever is done, names are what was added and not removed, each once.
func TestPlay(t *testing.T) {
	seen := map[string]int{}
	for seed := range 8 {
		p := &play{kit: made(t, 600, 12), x: dice(seed), kept: map[int]plain{0: {}, 2: {}, 3: {}}, seen: seen}
		p.step(func() {
			p.make(1)
			p.make(2)
			p.make(2)
		})
		p.now = maps.Clone(p.kept)
		for n := range 2000 {
			if p.x.below(8) == 0 {
				p.turn()
			} else {
				p.call()
			}
			if n%40 == 0 {
				p.whole()
			}
			if n%400 == 399 {
				p.kit = on(t, p.d.Crash(nil), p.p)
				p.now = maps.Clone(p.kept)
				p.whole()
			}
		}
	}
	for _, what := range []string{"Find", "Add", "Add done", "Remove", "Remove done", "Move", "Move done"} {
		if seen[what] == 0 {
			t.Errorf("the play saw no %s", what)
		}
	}
}
