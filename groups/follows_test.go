package groups_test

import (
	"fmt"
	"maps"
	"runtime"
	"strings"
	"testing"

	"bollard/api"
	"bollard/groups"
)

// key is one of few, so that they come again, or, now and then, one that may not be.
func (x *dice) key() groups.Key {
	if l := wrongKeys(); x.below(12) == 0 {
		return l[x.below(len(l))]
	}
	l := alike()
	return l[x.below(len(l))]
}

// number is one that an offset or a time may be, or, now and then, one that may not.
func (x *dice) number() int {
	if l := wrongNumbers(); x.below(25) == 0 {
		return l[x.below(len(l))]
	}
	if x.below(3) == 0 {
		return x.below(end)
	}
	return edges(0)[x.below(19)]
}

// TestPlays: rows of calls, Opens, crashes and transactions, held against a map.
func TestPlays(t *testing.T) {
	for seed := range 20 {
		x := dice(seed)
		k := made(t, 1500, 300)
		g, q := k.makes("/g")
		for range 250 {
			switch x.below(20) {
			case 0:
				g = k.opens("/g")
			case 1:
				k = k.fork()
				g = k.opens("/g")
			case 2:
				g, q = k.turn(&x, g, q)
			case 3, 4:
				k.compacts("P18.4", g, "/g", x.number())
			default:
				k.commits("P18.4", g, q, x.key(), x.number(), x.number())
			}
		}
		k.is("P18.4", g, q)
		k.again("P18.4", q)
	}
}

// turn is a transaction of some calls, that is committed or aborted.
func (k *kit) turn(x *dice, g *groups.Groups, q *plain) (*groups.Groups, *plain) {
	k.t.Helper()
	was := q.clone()
	k.do(k.f.Begin())
	for range x.below(12) {
		if x.below(5) == 0 {
			_, e := g.Compact(x.number())
			k.do(e)
			continue
		}
		k.commits("P18.3", g, q, x.key(), x.number(), x.number())
	}
	k.is("P18.3", g, q)
	if x.below(2) == 0 {
		k.do(k.f.Commit())
		return g, q
	}
	k.do(k.f.Abort())
	return k.opens("/g"), was
}

// TestLastIsFound: what was committed last is found, whatever else was committed behind it, and however often it was compacted, opened, crashed.
func TestLastIsFound(t *testing.T) {
	k := made(t, 1500, 400)
	g, q := k.makes("/g")
	mine := key("mine", 5, 5)
	k.commits("P18.4", g, q, mine, 6, 0)
	k.commits("P18.4", g, q, mine, 5, 0)
	for round := range 30 {
		for i := range 40 {
			k.commits("P18.4", g, q, key("other", 1+i%6, i%8), round, round)
		}
		switch round % 3 {
		case 0:
			for k.compacts("P18.4", g, "/g", round) {
			}
		case 1:
			g = k.opens("/g")
			k.compacts("P18.4", g, "/g", end)
		case 2:
			k = k.crashes(picks()[round%6], round%4)
			g = k.opens("/g")
		}
		if offset, e := g.Find(mine); offset != 5 || e != ok {
			t.Fatalf("P18.4: in round %d Find = %d %d, want 5", round, offset, e)
		}
		k.is("P18.4", g, q)
	}
	k.again("P18.4", q)
}

// TestApart: those of one file system, and of others, have nothing in common.
func TestApart(t *testing.T) {
	k, other := made(t, 1500, 300), made(t, 1500, 300)
	k.do(k.f.Mkdir("/d"))
	dirs := []string{"/a", "/b", "/d/a", "/o"}
	kits := map[string]*kit{"/a": k, "/b": k, "/d/a": k, "/o": other}
	plains, open := map[string]*plain{}, map[string]*groups.Groups{}
	for _, dir := range dirs {
		open[dir], plains[dir] = kits[dir].makes(dir)
	}
	x := dice(3)
	for i := range 200 {
		for _, dir := range dirs {
			kits[dir].commits("P18.4", open[dir], plains[dir], x.key(), x.number(), x.number())
			if i%20 == 19 {
				kits[dir].compacts("P18.4", open[dir], dir, i)
			}
		}
	}
	for i, dir := range dirs {
		kits[dir].is("P18.4", open[dir], plains[dir])
		kits[dir].again("P18.4", plains[dir])
		if i > 0 && maps.Equal(plains[dir].known, plains["/a"].known) {
			t.Error("the test's own offsets are alike")
		}
	}
}

// TestApartFull: one that is full leaves the other its room.
func TestApartFull(t *testing.T) {
	k := made(t, 1500, 300)
	g, q := k.knows(limit)
	h, r := k.makes("/h")
	for i := range limit {
		k.commits("P18.4", h, r, key("h", 1+i, 0), i, i)
	}
	k.refuses("P18.4", h, r, key("h", limit+1, 0), 0, 0, big)
	k.refuses("P18.4", g, q, key("h", 1, 0), 0, 0, big)
	k.again("P18.4", q)
	k.again("P18.4", r)
}

// TestLeavesOthers: no call touches another file, not even one in the directory.
func TestLeavesOthers(t *testing.T) {
	k := made(t, 900, 100)
	k.do(k.f.Mkdir("/d"), k.f.Create("/d/x"), k.f.Append("/d/x", []byte(strings.Repeat("x", 3000))), k.f.Create("/y"))
	others := func() string { return showAt(k.f, "/d") + showAt(k.f, "/y") }
	was := others()
	g, q := k.knows(50)
	k.do(k.f.Create("/g/mine"), k.f.Append("/g/mine", []byte("text")))
	mine := showAt(k.f, "/g/mine")
	for i := range 80 {
		k.commits("P18.4", g, q, nth(i%7), i, i)
	}
	for k.compacts("P18.4", g, "/g", 5) {
	}
	k.again("P18.4", q)
	if now := others(); now != was || showAt(k.f, "/g/mine") != mine {
		t.Errorf("P18.4: other files are\n%s\nwere\n%s", now, was)
	}
	if l, _ := k.f.List("/"); fmt.Sprint(l) != "[d g y]" {
		t.Errorf("P18.1: the names are %q", l)
	}
}

// TestSameAgain: the same calls tell the same, and leave the same bytes, however often they are played.
func TestSameAgain(t *testing.T) {
	seen := map[string]int{}
	for range 3 {
		x := dice(8)
		k := made(t, 900, 100)
		g, q := k.makes("/g")
		told := ""
		for i := range 150 {
			told += fmt.Sprint(g.Commit(x.key(), x.number(), x.number()), g.Len(), " ")
			if i%30 == 29 {
				done, e := g.Compact(i)
				told += fmt.Sprint(done, e, " ")
			}
		}
		k.opens(q.dir)
		seen[told+show(k.f)]++
	}
	if len(seen) != 1 {
		t.Errorf("P18.4: the same calls told %d things", len(seen))
	}
}

// TestNotKept: of a group that is a piece of a long text that text is not kept.
func TestNotKept(t *testing.T) {
	const pieces, long = 100, 1 << 20
	k := made(t, 900, 100)
	g, q := k.makes("/g")
	was := heap()
	for i := range 2 * pieces { // each key twice
		text := strings.Repeat("long text ", long/10)
		x := key(text[:7], 1+i%pieces, 0)
		k.do(g.Commit(x, i, i))
		q.commit(key("long te", 1+i%pieces, 0), i, i)
	}
	if now := heap(); now > was+pieces*long/2 {
		t.Errorf("P18.2: behind %d Commits %d bytes more are kept", 2*pieces, now-was)
	}
	k.is("P18.2", g, q)
}

// heap is how many bytes are used.
func heap() uint64 {
	var m runtime.MemStats
	runtime.GC()
	runtime.ReadMemStats(&m)
	return m.HeapAlloc
}

// TestWhole: a log of offsets as great as a device has room for; where it has none, it says so, and all that was answered is known.
func TestWhole(t *testing.T) {
	k := made(t, 300, 20)
	g, q := k.makes("/g")
	var e api.Errno
	for i := 0; e == ok; i++ {
		x := key(strings.Repeat("g", 50), 1+i%150, i%150%8)
		if e = g.Commit(x, i, i); e == ok {
			q.commit(x, i, i)
		}
	}
	if e != full {
		t.Fatalf("P18.2: Commit = %d, want ErrFull at last", e)
	}
	k.is("P18.4", g, q)
	k.again("P18.4", q)
}
