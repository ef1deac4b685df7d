package catalog_test

import (
	"fmt"
	"reflect"
	"strings"
	"testing"

	"bollard/api"
	"bollard/catalog"
	"bollard/part"
	"bollard/producers"
)

// name is one of few, so that they come again.
func (x *dice) name() string {
	return []string{"a", "b", "A", "ab", "a b", strings.Repeat("n", 50), "t1-0", "", "x/y"}[x.below(9)]
}

// settings are some that may be, or, now and then, some that may not.
func (x *dice) settings() api.Settings {
	if l := wrongSets(); x.below(12) == 0 {
		return l[x.below(len(l))]
	}
	l := edges()
	return l[x.below(len(l))]
}

// step is a call held against the plain one.
func (k *kit) step(x *dice, c *catalog.Catalog, q *plain) {
	k.t.Helper()
	switch x.below(9) {
	case 0, 1:
		k.creates("P17.5", c, q, fmt.Sprint(x.name(), x.below(4)), 1+x.below(3), x.settings())
	case 2:
		k.creates("P17.5", c, q, x.name(), x.below(10), x.settings())
	case 3, 4:
		k.deletes("P17.5", c, q, x.name())
	case 5:
		k.deletes("P17.5", c, q, fmt.Sprint(x.name(), x.below(4)))
	default:
		k.sweeps("P17.5", c, q)
	}
}

// TestPlays: rows of calls, Opens, crashes and transactions, held against maps.
func TestPlays(t *testing.T) {
	for seed := range 30 {
		x := dice(seed)
		k := made(t, 1500, 600)
		c, q := k.makes("/c")
		for range 60 {
			switch x.below(12) {
			case 0:
				c = k.opens("/c")
			case 1:
				k = k.fork()
				c = k.opens("/c")
			case 2:
				c, q = k.turn(&x, c, q)
			default:
				k.step(&x, c, q)
			}
			k.tells("P17.5", c, q)
		}
		k.is("P17.5", c, q)
		k.again("P17.5", q)
		k.sweepsAll("P17.5", c, q)
		k.again("P17.5", q)
	}
}

// turn is a transaction of some calls, that is committed or aborted.
func (k *kit) turn(x *dice, c *catalog.Catalog, q *plain) (*catalog.Catalog, *plain) {
	k.t.Helper()
	was := q.clone()
	k.do(k.f.Begin())
	for range x.below(4) {
		k.step(x, c, q)
	}
	k.is("P17.4", c, q)
	if x.below(2) == 0 {
		k.do(k.f.Commit())
		return c, q
	}
	k.do(k.f.Abort())
	return k.opens("/c"), was
}

// TestNew: a topic that is deleted and created again is a new one, empty, with other settings and parts; swept or not.
func TestNew(t *testing.T) {
	for _, swept := range []bool{false, true} {
		k := made(t, 1500, 200)
		c, q := k.makes("/c")
		for i, parts := range []int{2, 3, 1, 2} {
			s := edges()[i]
			k.creates("P17.5", c, q, "a", parts, s)
			x, found := c.Find("a")
			if x != (catalog.Topic{Name: "a", ID: i + 1, Parts: parts, Set: s}) || !found {
				t.Fatalf("P17.5: Find(a) = %v %v", x, found)
			}
			for n := range parts {
				k.isEmpty("P17.5", c.Dir(x, n), s)
				k.appends(q, x, n, 3)
			}
			k.deletes("P17.5", c, q, "a")
			if swept {
				k.sweepsAll("P17.5", c, q)
			}
		}
		k.sweepsAll("P17.5", c, q)
		if len(q.folders) > 0 {
			t.Errorf("P17.5: there are %v still", q.folders)
		}
	}
}

// TestSweepKeeps: whatever is deleted and swept, what a topic's partitions hold and know is what it was.
func TestSweepKeeps(t *testing.T) {
	k := made(t, 1500, 200)
	c, q := k.makes("/c")
	for i := range 5 {
		k.creates("P17.5", c, q, fmt.Sprint("a", i), 2, leastSet())
	}
	for _, x := range q.list() {
		k.appends(q, x, 0, 1+x.ID%3)
		k.appends(q, x, 1, x.ID%2)
	}
	was := map[string]string{}
	for name := range q.folders {
		was[name] = showAt(k.f, "/c/"+name)
	}
	for _, name := range []string{"a3", "a0", "a4"} {
		k.deletes("P17.5", c, q, name)
		for more := true; more; {
			more = k.sweeps("P17.5", c, q)
			for _, x := range q.list() {
				for n := range x.Parts {
					if now := showAt(k.f, c.Dir(x, n)); now != was[folder(x.ID, n)] {
						t.Fatalf("P17.5: what %s has is\n%s\nwas\n%s", x.Name, now, was[folder(x.ID, n)])
					}
				}
			}
		}
		k.is("P17.5", c, q)
	}
	x, _ := c.Find("a1")
	p, e := part.Open(k.f, c.Dir(x, 0), x.Set)
	known, code := producers.Open(k.f, c.Dir(x, 0)+"/producers")
	k.do(e, code)
	if p.Next() != 3 || len(p.Segments()) != 3 || known.Len() != 1 {
		t.Errorf("P17.5: the partition is %d %v, with %d producers", p.Next(), p.Segments(), known.Len())
	}
}

// TestApart: catalogs of one file system, and of others, have nothing in common.
func TestApart(t *testing.T) {
	k, other := made(t, 2500, 900), made(t, 1500, 600)
	k.do(k.f.Mkdir("/d"))
	dirs := []string{"/a", "/b", "/d/a", "/o"}
	kits := map[string]*kit{"/a": k, "/b": k, "/d/a": k, "/o": other}
	plains, open := map[string]*plain{}, map[string]*catalog.Catalog{}
	for _, dir := range dirs {
		open[dir], plains[dir] = kits[dir].makes(dir)
	}
	dice := []dice{1, 2, 3, 4}
	for range 80 {
		for i, dir := range dirs {
			kits[dir].step(&dice[i], open[dir], plains[dir])
		}
	}
	for i, dir := range dirs {
		kits[dir].is("P17.5", open[dir], plains[dir])
		kits[dir].again("P17.5", plains[dir])
		if i > 0 && reflect.DeepEqual(plains[dir].topics, plains["/a"].topics) {
			t.Error("the test's own catalogs are alike")
		}
	}
}

// TestWithin: a catalog within a directory of another one, whose topics it does not tell.
func TestWithin(t *testing.T) {
	k := made(t, 900, 200)
	c, q := k.has(2)
	inner, p := k.makes("/c/x")
	q.folders["x"] = []string{"catalog"}
	k.creates("P17.5", inner, p, "a0", 2, set())
	k.deletes("P17.5", inner, p, "a0")
	q.folders["x"] = []string{"catalog", "t1-0", "t1-1"}
	k.still("P17.5", "Sweep of the outer one", func() { k.sweepsAll("P17.5", c, q) })
	k.sweepsAll("P17.5", inner, p)
	q.folders["x"] = []string{"catalog"}
	k.deletes("P17.5", c, q, "a0")
	k.is("P17.5", inner, p)
	k.sweepsAll("P17.5", c, q)
	k.again("P17.5", q)
	k.again("P17.5", p)
}

// TestLeavesOthers: no call touches another file.
func TestLeavesOthers(t *testing.T) {
	k := made(t, 900, 200)
	k.do(k.f.Mkdir("/d"), k.f.Create("/d/x"), k.f.Append("/d/x", []byte(strings.Repeat("x", 3000))), k.f.Create("/y"), k.f.Mkdir("/t1-0"), k.f.Mkdir("/t9-0"))
	others := func() string {
		return showAt(k.f, "/d") + showAt(k.f, "/y") + showAt(k.f, "/t1-0") + showAt(k.f, "/t9-0")
	}
	was := others()
	c, q := k.has(4)
	k.do(k.f.Create("/c/mine"), k.f.Append("/c/mine", []byte("text")))
	mine := showAt(k.f, "/c/mine")
	k.deletes("P17.5", c, q, "a1")
	k.sweepsAll("P17.5", c, q)
	if now := others(); now != was || showAt(k.f, "/c/mine") != mine {
		t.Errorf("P17.5: other files are\n%s\nwere\n%s", now, was)
	}
	if l, _ := k.f.List("/"); fmt.Sprint(l) != "[c d t1-0 t9-0 y]" {
		t.Errorf("P17.1: the names are %q", l)
	}
}
