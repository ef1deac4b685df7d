package catalog_test

import (
	"fmt"
	"reflect"
	"testing"

	"bollard/api"
	"bollard/catalog"
	"bollard/fs"
)

// law holds a call, cut at each of its ops, against what it leaves: was ahead of it, is behind it.
func law(t *testing.T, promise string, old *kit, was, is *plain, do func(k *kit, c *catalog.Catalog) api.Errno) {
	t.Helper()
	seen := [2]int{}
	for cut := 0; ; cut++ {
		k := old.fork()
		c := k.opens("/c")
		k.d.Cut(cut)
		e := do(k, c)
		if e != ok && e != off {
			t.Fatalf("%s: cut at op %d it answers %d, want ErrOff", promise, cut, e)
		}
		for i, pick := range picks() {
			crashed := k.crashes(pick, i%3)
			q := was
			if isThere(crashed, is) {
				q = is
				seen[1]++
			} else if seen[0]++; e == ok {
				t.Fatalf("%s: what was answered is gone behind a crash", promise)
			}
			crashed.is(promise, crashed.opens("/c"), q)
			crashed.again(promise, q)
			if i == 1 {
				crashed.goesOn(promise, q.clone())
			}
		}
		if e == ok {
			k.is(promise, c, is)
			break
		}
	}
	if seen[0] == 0 || seen[1] == 0 {
		t.Errorf("%s: the cuts left all %d times, nothing %d times", promise, seen[1], seen[0])
	}
}

// crashes is what a crash leaves, where mounting it was cut, and crashed again, so often.
func (k *kit) crashes(pick []int, often int) *kit {
	k.t.Helper()
	d := k.d.Crash(pick)
	for i := range often {
		d.Cut(i)
		if _, e := fs.Mount(d); e != ok && e != off {
			k.t.Fatalf("P10.6: Mount that is cut = %d", e)
		}
		d = d.Crash(pick)
	}
	return mounted(k.t, d)
}

// isThere is whether a catalog's topics and directories are those.
func isThere(k *kit, q *plain) bool {
	k.t.Helper()
	l := k.opens("/c").List()
	return fmt.Sprint(l) == fmt.Sprint(q.list()) && reflect.DeepEqual(k.folders("/c"), q.folders)
}

// isOff must be all calls on a file system that is dead, while the catalog tells what it told.
func (k *kit) isOff(promise string, c *catalog.Catalog, q *plain) {
	k.t.Helper()
	if x, e := c.Create("off", 1, set()); x != (catalog.Topic{}) || e != off {
		k.t.Errorf("%s: Create on a dead file system = %v %d", promise, x, e)
	}
	for _, x := range q.list() {
		if e := c.Delete(x.Name); e != off {
			k.t.Errorf("%s: Delete on a dead file system = %d", promise, e)
		}
	}
	k.tells(promise, c, q)
}

// TestCreatePower: the new topic is there with all its directories, or not at all.
func TestCreatePower(t *testing.T) {
	for _, topics := range []int{0, 3, 19} {
		for _, parts := range []int{1, 8} {
			old := made(t, 700, 120)
			c, was := old.has(topics)
			if topics > 0 {
				old.deletes("P17.2", c, was, "a0")
			}
			is := was.clone()
			want, _ := is.create("new", parts, mostSet())
			law(t, "P17.2", old, was, is, func(k *kit, c *catalog.Catalog) api.Errno {
				x, e := c.Create("new", parts, mostSet())
				if e == ok && x != want || e != ok && x != (catalog.Topic{}) {
					t.Errorf("P17.2: Create = %v %d", x, e)
				}
				if e == off {
					k.isOff("P17.2", c, was)
				}
				return e
			})
		}
	}
}

// TestDeletePower: it is a topic, or it is none; its directories are there either way.
func TestDeletePower(t *testing.T) {
	for _, name := range []string{"a0", "a3"} {
		old := made(t, 700, 120)
		_, was := old.has(4)
		is := was.clone()
		is.delete(name)
		law(t, "P17.2", old, was, is, func(k *kit, c *catalog.Catalog) api.Errno {
			e := c.Delete(name)
			if e == off {
				k.isOff("P17.2", c, was)
			}
			return e
		})
	}
}

// TestSweepPower: each call removes one thing, or nothing.
func TestSweepPower(t *testing.T) {
	for n := range 6 { // how often it was called ahead
		old := made(t, 700, 120)
		c, was := old.makes("/c")
		old.creates("P17.2", c, was, "a", 2, set())
		old.creates("P17.2", c, was, "b", 1, set())
		old.deletes("P17.2", c, was, "a")
		for range n {
			old.sweeps("P17.3", c, was)
		}
		is := was.clone()
		is.sweep()
		law(t, "P17.3", old, was, is, func(k *kit, c *catalog.Catalog) api.Errno {
			gone, e := c.Sweep()
			if gone != (e == ok) {
				t.Errorf("P17.3: Sweep() = %v %d", gone, e)
			}
			if e == off {
				k.isOff("P17.3", c, was)
				if gone, e := c.Sweep(); gone || e != off {
					t.Errorf("P17.3: Sweep on a dead file system = %v %d", gone, e)
				}
			}
			return e
		})
	}
}

// TestTransactionPower: a transaction of all of them is there wholly or not at all.
func TestTransactionPower(t *testing.T) {
	old := made(t, 700, 120)
	c, was := old.has(3)
	old.deletes("P17.2", c, was, "a2")
	is := was.clone()
	fork := old.fork()
	steps(fork, fork.opens("/c"), is)
	law(t, "P17.4", old, was, is, func(k *kit, c *catalog.Catalog) api.Errno {
		k.do(k.f.Begin())
		steps(k, c, was.clone())
		return k.f.Commit()
	})
}

// TestRowPower: calls one behind the other, cut anywhere: behind the crash all that were answered are done, and the one that was cut off wholly or not at all.
func TestRowPower(t *testing.T) {
	old := made(t, 700, 120)
	_, first := old.has(2)
	calls := []func(k *kit, c *catalog.Catalog, q *plain) api.Errno{
		func(k *kit, c *catalog.Catalog, q *plain) api.Errno {
			q.create("b", 2, set())
			_, e := c.Create("b", 2, set())
			return e
		},
		func(k *kit, c *catalog.Catalog, q *plain) api.Errno { q.delete("a0"); return c.Delete("a0") },
		func(k *kit, c *catalog.Catalog, q *plain) api.Errno {
			q.create("a0", 1, mostSet())
			_, e := c.Create("a0", 1, mostSet())
			return e
		},
		func(k *kit, c *catalog.Catalog, q *plain) api.Errno { q.sweep(); _, e := c.Sweep(); return e },
		func(k *kit, c *catalog.Catalog, q *plain) api.Errno { q.delete("b"); return c.Delete("b") },
		func(k *kit, c *catalog.Catalog, q *plain) api.Errno { q.sweep(); _, e := c.Sweep(); return e },
		func(k *kit, c *catalog.Catalog, q *plain) api.Errno { q.sweep(); _, e := c.Sweep(); return e },
	}
	x := dice(5)
	for cut, done := 0, false; !done; cut++ {
		k, q := old.fork(), first.clone()
		c := k.opens("/c")
		k.d.Cut(cut)
		was := q.clone()
		done = true
		for _, call := range calls {
			was = q.clone()
			e := call(k, c, q)
			if e == off {
				done = false
				break
			}
			k.do(e)
		}
		pick := make([]int, 80)
		for i := range pick {
			pick[i] = x.below(3)
		}
		crashed := k.crashes(pick, cut%3)
		if !isThere(crashed, q) && (done || !isThere(crashed, was)) {
			t.Fatalf("P17.2: cut at op %d there are %v and %v", cut, crashed.opens("/c").List(), crashed.folders("/c"))
		}
	}
}
