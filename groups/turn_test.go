package groups_test

import (
	"testing"

	"bollard/api"
	"bollard/groups"
)

// steps are calls that each change something, and some that are refused, in a row: into a new segment, too.
func (k *kit) steps(g *groups.Groups, q *plain) {
	k.t.Helper()
	for i := range 10 {
		k.commits("P18.3", g, q, nth(i), 5000+i, i)
		k.commits("P18.3", g, q, key("step", 1, i), i, i)
	}
	for range 2 {
		if _, e := g.Compact(3); e != ok {
			k.t.Fatalf("P18.3: Compact = %d", e)
		}
		k.commits("P18.3", g, q, key("step", 2, 0), 7, 0)
		k.is("P18.3", g, q)
	}
}

// TestCommitted: what is done within a transaction is known within it, writes nothing, and stays; the partition is as if there had been none.
func TestCommitted(t *testing.T) {
	for _, n := range []int{0, 1, 20, 40, 120} {
		k := made(t, 900, 100)
		g, q := k.knows(n)
		was, twin, ops := q.clone(), k.fork(), k.d.Ops()
		k.do(k.f.Begin())
		k.steps(g, q)
		k.is("P18.3", k.opens("/g"), q)
		if k.d.Ops() != ops {
			t.Error("P18.2: within a transaction something was written")
		}
		fork := k.fork()
		fork.is("P18.3", fork.opens("/g"), was)
		k.do(k.f.Commit())
		k.is("P18.3", g, q)
		k.again("P18.3", q)
		twin.steps(twin.opens("/g"), was)
		if got, want := showAt(k.f, "/g"), showAt(twin.f, "/g"); got != want {
			t.Fatalf("P18.3: behind a transaction there is\n%s\nwant\n%s", got, want)
		}
		k.goesOn("P18.3", q)
	}
}

// TestAborted: Opened again, what was known is, as it was.
func TestAborted(t *testing.T) {
	for _, n := range []int{0, 1, 20, 40, 120} {
		k := made(t, 900, 100)
		g, q := k.knows(n)
		was := show(k.f)
		k.do(k.f.Begin())
		k.steps(g, q.clone())
		k.do(k.f.Abort())
		if now := show(k.f); now != was {
			t.Fatalf("P18.3: behind Abort the file system is\n%s\nwas\n%s", now, was)
		}
		k.again("P18.3", q)
		k.goesOn("P18.3", q)
	}
}

// TestMakeWithin: Make and Open are a part of a transaction that was begun.
func TestMakeWithin(t *testing.T) {
	k := made(t, 900, 100)
	was := show(k.f)
	for _, end := range []func() api.Errno{k.f.Abort, k.f.Commit} {
		k.do(k.f.Begin())
		g, q := k.knows(3)
		k.steps(g, q)
		k.refused("/g", exist, ok)
		k.refused("/q/r", none, none)
		if show(k.fork().f) != was {
			t.Error("P18.1: Make within a transaction is there ahead of its end")
		}
		k.do(end())
		if _, e := k.f.Stat("/g"); e == ok {
			k.is("P18.3", g, q)
			k.again("P18.3", q)
			return
		}
		if show(k.f) != was {
			t.Error("P18.1: behind Abort something is left of Make")
		}
	}
	t.Error("P18.3: what was committed is not there")
}

// TestMakeFullWithin: Make without room leaves a transaction as it was.
func TestMakeFullWithin(t *testing.T) {
	k := made(t, 400, 60)
	k.prepares()
	k.leaves(0)
	k.do(k.f.Begin(), k.f.Create("/x"))
	k.refused("/g", full, none)
	k.do(k.f.Create("/y"), k.f.Commit())
	for _, path := range []string{"/x", "/y"} {
		if s, e := k.f.Stat(path); s.Kind != 1 || e != ok {
			t.Errorf("P18.1: behind Make that is refused %s is %v %d", path, s, e)
		}
	}
}

// TestRefusedWithin: what is refused leaves the transaction as it is, and it goes on.
func TestRefusedWithin(t *testing.T) {
	k := made(t, 400, 80)
	k.prepares()
	g, q := k.knows(34) // the first segment is full
	k.leaves(0)
	k.do(k.f.Begin(), k.f.Create("/y"))
	k.refuses("P18.3", g, q, nth(0), 5, 5, full)
	k.refuses("P18.3", g, q, key("new", 1, 0), 5, 5, full)
	k.refuses("P18.3", g, q, key("new", 1, 0), 5, -1, arg)
	k.refused("/g", exist, ok)
	k.do(k.f.Truncate("/fill/0", 0))
	k.steps(g, q)
	k.do(k.f.Commit())
	k.is("P18.3", g, q)
	k.again("P18.3", q)
	if s, e := k.f.Stat("/y"); s.Kind != 1 || e != ok {
		t.Errorf("P18.3: what was done ahead of a Commit that was refused is %v %d", s, e)
	}
}

// grows writes so many blocks, each by a call of its own; false: the transaction that was begun has no room for them.
func (k *kit) grows(blocks int) bool {
	k.t.Helper()
	for range blocks {
		switch e := k.f.Append("/great", make([]byte, api.Block)); e {
		case ok:
		case big:
			return false
		default:
			k.t.Fatalf("Append = %d", e)
		}
	}
	return true
}

// TestTooGreat: a transaction that is too great is aborted; Opened again, what was known is, as it was.
func TestTooGreat(t *testing.T) {
	for _, n := range []int{1, 40, 120} {
		for _, commit := range []bool{false, true} {
			k := made(t, 900, 100)
			g, q := k.knows(n)
			for i := range 40 { // so that there is something to compact
				k.commits("P18.2", g, q, nth(0), i, i)
			}
			k.do(k.f.Create("/great"))
			was := show(k.f)
			k.do(k.f.Begin())
			k.steps(g, q.clone())
			if k.grows(api.SlotData) {
				t.Fatal("P10.2: no transaction is too great")
			}
			g = k.opens("/g")
			k.is("P18.3", g, q)
			k.refuses("P18.3", g, q, nth(0), 5, 5, big)
			k.refuses("P18.3", g, q, key("new", 1, 0), 5, 5, big)
			k.refuses("P18.3", g, q, key("new", 0, 0), 5, 5, arg)
			if done, e := g.Compact(5); done || e != big {
				t.Fatalf("P18.3: Compact = %v %d, want ErrBig", done, e)
			}
			k.refused("/new", big, none)
			if commit {
				k.fails(big, k.f.Commit())
			} else {
				k.do(k.f.Abort())
			}
			if now := show(k.f); now != was {
				t.Fatalf("P18.3: behind a transaction that was too great the file system is\n%s\nwas\n%s", now, was)
			}
			k.again("P18.3", q)
			k.goesOn("P18.3", q)
		}
	}
}

// TestCallTooGreat: a call for which a transaction has no room is refused, and aborts it.
func TestCallTooGreat(t *testing.T) {
	old := made(t, 900, 100)
	g, q := old.knows(34) // the first segment is full
	old.do(old.f.Create("/great"))
	for i := range 34 {
		old.commits("P18.2", g, q, nth(i%2), i, i)
	}
	for i, call := range []func(g *groups.Groups, q *plain) api.Errno{
		func(g *groups.Groups, q *plain) api.Errno { q.commit(nth(0), 5, 5); return g.Commit(nth(0), 5, 5) },
		func(g *groups.Groups, q *plain) api.Errno { _, e := g.Compact(5); return e },
	} {
		seen := map[api.Errno]int{}
		for blocks := range api.SlotData {
			k, is := old.fork(), q.clone()
			g := k.opens("/g")
			k.do(k.f.Begin())
			if !k.grows(blocks) {
				break
			}
			e := call(g, is)
			seen[e]++
			switch e {
			case ok:
				k.do(k.f.Commit())
				k.is("P18.3", g, is)
				k.again("P18.3", is)
			case big:
				k.is("P18.3", g, q)
				k.fails(big, k.f.Commit())
				k.again("P18.3", q)
			default:
				t.Fatalf("P18.3: call %d = %d, want ErrBig at last", i, e)
			}
		}
		if seen[ok] == 0 || seen[big] == 0 {
			t.Errorf("P18.3: what call %d answered was %v times", i, seen)
		}
	}
}

// TestNotOpenedAgain: one that should have been Opened again ends each call all the same.
func TestNotOpenedAgain(t *testing.T) {
	for _, n := range []int{0, 1, 40, 120, 198} {
		k := made(t, 900, 100)
		g, _ := k.knows(n)
		k.do(k.f.Begin())
		for i := range 60 {
			g.Commit(key("aborted", 1, i%8), i, i)
		}
		g.Compact(0)
		k.do(k.f.Abort())
		for i := range 60 {
			g.Commit(key("later", 1, i%8), i, i)
			g.Commit(key("", 1, 0), i, i)
			g.Find(key("aborted", 1, 0))
			g.Compact(i)
		}
		if g.Len() > limit {
			t.Errorf("P18.3: Len() = %d", g.Len())
		}
	}
}

// TestNil: a nil and a zero Groups, at each call and at all arguments.
func TestNil(t *testing.T) {
	for _, g := range []*groups.Groups{nil, {}, new(groups.Groups)} {
		for _, x := range append(strangers(), nth(0), nth(1)) {
			for _, n := range append(wrongNumbers(), edges(0)...) {
				if e := g.Commit(x, n, 5); e != off {
					t.Fatalf("P18.3: Commit(%.90v, %d, 5) of none = %d, want ErrOff", x, n, e)
				}
				if e := g.Commit(x, 5, n); e != off {
					t.Fatalf("P18.3: Commit(%.90v, 5, %d) of none = %d, want ErrOff", x, n, e)
				}
			}
			if offset, e := g.Find(x); offset != 0 || e != none {
				t.Fatalf("P18.3: Find(%.90v) of none = %d %d, want ErrNone", x, offset, e)
			}
		}
		for _, now := range nows() {
			if done, e := g.Compact(now); done || e != off {
				t.Errorf("P18.3: Compact(%d) of none = %v %d, want ErrOff", now, done, e)
			}
		}
		if n := g.Len(); n != 0 {
			t.Errorf("P18.3: Len() of none = %d", n)
		}
	}
}
