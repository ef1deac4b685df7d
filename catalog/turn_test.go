package catalog_test

import (
	"fmt"
	"testing"

	"bollard/api"
	"bollard/catalog"
)

// steps are calls of each kind, those that are refused among them.
func steps(k *kit, c *catalog.Catalog, q *plain) {
	k.t.Helper()
	k.creates("P17.4", c, q, "new", 3, mostSet())
	k.deletes("P17.4", c, q, "a0")
	k.deletes("P17.4", c, q, "a0")
	k.creates("P17.4", c, q, "new", 1, set())
	k.sweeps("P17.4", c, q)
	k.sweeps("P17.4", c, q)
	k.creates("P17.4", c, q, "a0", 1, set())
	k.creates("P17.4", c, q, "a/0", 1, set())
	k.deletes("P17.4", c, q, "new")
	k.sweeps("P17.4", c, q)
	k.creates("P17.4", c, q, "newer", 2, leastSet())
}

// TestCommitted: what is done within a transaction is told within it, writes nothing ahead of its end, and stays.
func TestCommitted(t *testing.T) {
	for _, n := range []int{1, 2, 5, 17} {
		k := made(t, 900, 200)
		c, q := k.has(n)
		was, ops := q.clone(), k.d.Ops()
		k.do(k.f.Begin())
		steps(k, c, q)
		k.is("P17.4", c, q)
		k.is("P17.4", k.opens("/c"), q)
		if k.d.Ops() != ops {
			t.Error("P17.4: within a transaction something was written")
		}
		fork := k.fork()
		fork.is("P17.4", fork.opens("/c"), was)
		k.do(k.f.Commit())
		k.is("P17.4", c, q)
		k.again("P17.4", q)
		k.goesOn("P17.4", q)
	}
}

// TestAborted: Opened again, all is as it was, the next ID too.
func TestAborted(t *testing.T) {
	for _, n := range []int{1, 2, 5, 17} {
		k := made(t, 900, 200)
		c, q := k.has(n)
		was := show(k.f)
		k.do(k.f.Begin())
		steps(k, c, q.clone())
		k.do(k.f.Abort())
		if now := show(k.f); now != was {
			t.Fatalf("P17.4: behind Abort the file system is\n%s\nwas\n%s", now, was)
		}
		k.again("P17.4", q)
		k.goesOn("P17.4", q)
	}
}

// TestMakeWithin: Make is a part of a transaction that was begun.
func TestMakeWithin(t *testing.T) {
	k := made(t, 900, 100)
	was := show(k.f)
	for _, end := range []func() api.Errno{k.f.Abort, k.f.Commit} {
		k.do(k.f.Begin())
		c, q := k.has(2)
		steps(k, c, q)
		k.is("P17.4", c, q)
		k.refused("/c", exist, ok)
		k.refused("/q/r", none, none)
		if show(k.fork().f) != was {
			t.Error("P17.1: Make within a transaction is there ahead of its end")
		}
		k.do(end())
		if _, e := k.f.Stat("/c"); e == ok {
			k.again("P17.4", q)
			return
		}
		if show(k.f) != was {
			t.Error("P17.1: behind Abort something is left of Make")
		}
	}
	t.Error("P17.4: what was committed is not there")
}

// TestRefusedWithin: what is refused leaves the transaction as it is, and it goes on.
func TestRefusedWithin(t *testing.T) {
	k := made(t, 600, 200)
	c, q := k.has(6)
	need, _ := needs(k, 8)
	k.leaves(need - 1)
	k.do(k.f.Begin(), k.f.Create("/y"))
	k.refuses("P17.4", c, q, "new", 8, set(), full)
	k.refuses("P17.4", c, q, "a0", 8, set(), exist)
	k.refuses("P17.4", c, q, "new", 9, set(), arg)
	k.still("P17.4", "what is refused", func() {
		k.t.Helper()
		k.fails(none, c.Delete("new"))
		k.fails(exist, catalog.Make(k.f, "/c"))
		k.sweepsAll("P17.4", c, q)
	})
	k.do(k.f.Mkdir("/c/t7-2"))
	q.folders["t7-2"] = []string{}
	k.refuses("P17.4", c, q, "new", 3, set(), exist)
	k.sweepsAll("P17.4", c, q)
	k.deletes("P17.4", c, q, "a0")
	k.sweepsAll("P17.4", c, q)
	k.creates("P17.4", c, q, "new", 8, set())
	k.do(k.f.Commit())
	k.again("P17.4", q)
	if s, e := k.f.Stat("/y"); s.Kind != 1 || e != ok {
		t.Errorf("P17.4: what was done ahead of a call that was refused is %v %d", s, e)
	}
}

// TestMakeFullWithin: Make without room leaves a transaction as it was.
func TestMakeFullWithin(t *testing.T) {
	k := made(t, 400, 60)
	k.leaves(4)
	k.do(k.f.Begin(), k.f.Create("/x"))
	k.refused("/c", full, none)
	k.do(k.f.Create("/y"), k.f.Commit())
	if l, _ := k.f.List("/"); fmt.Sprint(l) != "[fill x y]" {
		t.Errorf("P17.1: behind Make that is refused there are %q", l)
	}
}

// grows writes so many blocks, each by a call of its own; false: the transaction that was begun has no room for them.
func (k *kit) grows(blocks int) bool {
	k.t.Helper()
	for range blocks {
		switch e := k.f.Append("/great", make([]byte, api.Block)); e {
		case ok:
		case big:
			return false
		default:
			k.t.Fatalf("Append = %d", e)
		}
	}
	return true
}

// TestTooGreat: a transaction that is too great is aborted; Opened again, all is as it was.
func TestTooGreat(t *testing.T) {
	for _, n := range []int{1, 5, 17} {
		for _, commit := range []bool{false, true} {
			k := made(t, 900, 200)
			c, q := k.has(n)
			k.do(k.f.Create("/great"))
			was := show(k.f)
			k.do(k.f.Begin())
			steps(k, c, q.clone())
			if k.grows(api.SlotData) {
				t.Fatal("P10.2: no transaction is too great")
			}
			c = k.opens("/c")
			k.refuses("P17.4", c, q, "other", 1, set(), big)
			k.refuses("P17.4", c, q, "other", 0, set(), arg)
			k.refuses("P17.4", c, q, "a0", 1, set(), exist)
			k.fails(big, c.Delete("a0"))
			k.fails(none, c.Delete("other"))
			k.refused("/new", big, none)
			if commit {
				k.fails(big, k.f.Commit())
			} else {
				k.do(k.f.Abort())
			}
			if now := show(k.f); now != was {
				t.Fatalf("P17.4: behind a transaction that was too great the file system is\n%s\nwas\n%s", now, was)
			}
			k.again("P17.4", q)
			k.goesOn("P17.4", q)
		}
	}
}

// TestCallTooGreat: a call for which a transaction has no room is refused, and aborts it.
func TestCallTooGreat(t *testing.T) {
	old := made(t, 900, 200)
	c, q := old.has(3)
	old.deletes("P17.2", c, q, "a1")
	old.do(old.f.Create("/great"))
	for i, call := range []func(c *catalog.Catalog, q *plain) api.Errno{
		func(c *catalog.Catalog, q *plain) api.Errno {
			q.create("new", 4, set())
			_, e := c.Create("new", 4, set())
			return e
		},
		func(c *catalog.Catalog, q *plain) api.Errno { q.delete("a0"); return c.Delete("a0") },
		func(c *catalog.Catalog, q *plain) api.Errno { q.sweep(); _, e := c.Sweep(); return e },
	} {
		seen := map[api.Errno]int{}
		for blocks := range api.SlotData {
			k, is := old.fork(), q.clone()
			c := k.opens("/c")
			k.do(k.f.Begin())
			if !k.grows(blocks) {
				break
			}
			e := call(c, is)
			seen[e]++
			switch e {
			case ok:
				k.do(k.f.Commit())
				k.again("P17.4", is)
			case big:
				k.is("P17.4", c, q)
				k.fails(big, k.f.Commit())
				k.again("P17.4", q)
			default:
				t.Fatalf("P17.4: call %d = %d, want ErrBig at last", i, e)
			}
		}
		if seen[ok] == 0 || seen[big] == 0 {
			t.Errorf("P17.4: what call %d answered was %v times", i, seen)
		}
	}
}

// TestNotOpenedAgain: one that should have been Opened again ends each call all the same.
func TestNotOpenedAgain(t *testing.T) {
	for _, n := range []int{1, 2, 17} {
		k := made(t, 900, 200)
		c, q := k.has(n)
		k.do(k.f.Begin())
		steps(k, c, q)
		k.do(k.f.Abort())
		for i := range 3 {
			c.Create(fmt.Sprint("more", i), 2, set())
			c.Create("a0", 1, set())
			c.Delete("newer")
			c.Delete("a0")
			c.Sweep()
			c.Find("new")
			if len(c.List()) > limit {
				t.Errorf("P17.4: there are %d topics", len(c.List()))
			}
		}
	}
}

// TestNil: a nil and a zero Catalog, at each call and at all arguments.
func TestNil(t *testing.T) {
	for _, c := range []*catalog.Catalog{nil, {}, new(catalog.Catalog)} {
		for _, name := range append(wrongNames(), "a", "t1-0") {
			for _, parts := range []int{least, 0, 1, 8, 9, most} {
				for _, s := range []api.Settings{{}, set()} {
					if x, e := c.Create(name, parts, s); x != (catalog.Topic{}) || e != off {
						t.Fatalf("P17.4: Create(%.60q, %d, %v) of none = %v %d, want ErrOff", name, parts, s, x, e)
					}
				}
			}
			if e := c.Delete(name); e != off {
				t.Fatalf("P17.4: Delete(%.60q) of none = %d, want ErrOff", name, e)
			}
			if x, found := c.Find(name); x != (catalog.Topic{}) || found {
				t.Fatalf("P17.4: Find(%.60q) of none = %v %v", name, x, found)
			}
		}
		for _, n := range []int{least, -1, 0, 1, most} {
			if at := c.Dir(catalog.Topic{ID: n}, n); at != "" {
				t.Errorf("P17.4: Dir of none = %q", at)
			}
		}
		if gone, e := c.Sweep(); gone || e != off {
			t.Errorf("P17.4: Sweep() of none = %v %d, want ErrOff", gone, e)
		}
		if l := c.List(); len(l) != 0 {
			t.Errorf("P17.4: List() of none = %v", l)
		}
	}
}
