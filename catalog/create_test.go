package catalog_test

import (
	"fmt"
	"reflect"
	"strings"
	"testing"

	"bollard/api"
	"bollard/catalog"
)

// TestCreate: topics of each number of parts, told at once, and Opened again.
func TestCreate(t *testing.T) {
	k := made(t, 900, 200)
	c, q := k.makes("/c")
	for i, parts := range []int{1, 8, 2, 7, 3, 6, 4, 5} {
		k.creates("P17.2", c, q, fmt.Sprint("x", parts), parts, edges()[i])
		k.is("P17.2", c, q)
		k.again("P17.2", q)
		if i%3 == 2 {
			c = k.opens("/c")
		}
	}
}

// TestCreateArg: names, parts and settings that may not be, whether or not there is room for one more, and whether or not the name is there.
func TestCreateArg(t *testing.T) {
	for _, n := range []int{0, 1, 19, 20} {
		k := made(t, 900, 200)
		c, q := k.has(n)
		for _, name := range wrongNames() {
			k.refuses("P17.2", c, q, name, 1, set(), arg)
		}
		for _, name := range []string{"new", "a0", "a19"} {
			for _, parts := range []int{least, least + 1, -1, 0, 9, 10, 1<<32 + 1, most - 1, most} {
				k.refuses("P17.2", c, q, name, parts, set(), arg)
			}
			for _, s := range wrongSets() {
				k.refuses("P17.2", c, q, name, 1, s, arg)
			}
			k.refuses("P17.2", c, q, name, 0, api.Settings{}, arg)
		}
		k.again("P17.2", q)
	}
}

// wrongSets are settings of which one field alone may not be.
func wrongSets() (l []api.Settings) {
	for i, wrong := range [][]int{{511, 8193, 0, -1, least, most}, {-2, 1<<40 + 1, least, most}, {-2, end + 1, least, most}, {-1, end + 1, least, most}} {
		for _, v := range wrong {
			s := set()
			*[]*int{&s.Segment, &s.Bytes, &s.Age, &s.Delay}[i] = v
			l = append(l, s)
		}
	}
	return append(l, api.Settings{})
}

// TestCreateOrder: ErrArg first, then ErrExist, then ErrBig.
func TestCreateOrder(t *testing.T) {
	k := made(t, 900, 200)
	c, q := k.has(19)
	k.refuses("P17.2", c, q, "a5", 1, set(), exist)
	k.refuses("P17.2", c, q, "a5", 8, mostSet(), exist)
	k.creates("P17.2", c, q, "a19", 1, set())
	for range 2 {
		for _, name := range []string{"new", "a20", "A5", strings.Repeat("n", 50)} {
			k.refuses("P17.2", c, q, name, 1, set(), big)
			k.refuses("P17.2", c, q, name, 9, set(), arg)
		}
		k.refuses("P17.2", c, q, "a5", 1, set(), exist)
		k.refuses("P17.2", c, q, "a19", 8, leastSet(), exist)
		k.refuses("P17.2", c, q, "a5", 0, set(), arg)
		c = k.opens("/c")
	}
	k.deletes("P17.2", c, q, "a7")
	k.creates("P17.2", c, q, "new", 1, set())
	k.refuses("P17.2", c, q, "a7", 1, set(), big)
	k.again("P17.2", q)
}

// TestIDs: none comes twice, whatever was deleted, behind Open too.
func TestIDs(t *testing.T) {
	for _, opens := range []bool{false, true} {
		k := made(t, 1500, 500)
		c, q := k.makes("/c")
		next := 0
		id := func(name string) {
			t.Helper()
			if opens {
				c = k.opens("/c")
			}
			next++
			if x, e := c.Create(name, 1, set()); x.ID != next || e != ok {
				t.Fatalf("P17.2: Create(%q) = %v %d, want the ID %d", name, x, e, next)
			}
			q.create(name, 1, set())
			k.is("P17.2", c, q)
		}
		gone := func(names ...string) {
			t.Helper()
			for _, name := range names {
				k.deletes("P17.2", c, q, name)
			}
			k.is("P17.2", c, q)
		}
		id("a")
		gone("a") // the last one, and the only one
		id("a")
		id("b")
		gone("b") // the last one
		id("b")
		gone("a") // the first one
		id("c")
		gone("c", "b")
		id("d")
		for i := range 60 { // more than there are rows
			id(fmt.Sprint("x", i))
			gone(fmt.Sprint("x", i))
			if i%7 == 0 {
				k.sweepsAll("P17.3", c, q)
			}
		}
		for i := range 19 {
			id(fmt.Sprint("y", i))
		}
		gone("y18", "y3", "d")
		id("z")
		k.again("P17.2", q)
	}
}

// TestCreateThere: what is of the new topic's names already is 10's ErrExist, and stays.
func TestCreateThere(t *testing.T) {
	for i := range 8 {
		for _, isFile := range []bool{false, true} {
			k := made(t, 900, 200)
			c, q := k.has(1)
			path := fmt.Sprint("/c/t2-", i)
			if isFile {
				k.do(k.f.Create(path), k.f.Append(path, []byte("text")))
			} else {
				k.do(k.f.Mkdir(path))
				q.folders[path[3:]] = []string{}
			}
			k.refuses("P17.2", c, q, "new", 8, set(), exist)
			k.refuses("P17.2", c, q, "new", i+1, set(), exist)
			k.again("P17.2", q)
			fork := k.fork()
			if i > 0 {
				fork.creates("P17.2", fork.opens("/c"), q.clone(), "new", i, set())
			}
			k.do(k.f.Remove(path))
			delete(q.folders, path[3:])
			k.creates("P17.2", c, q, "new", 8, set())
			k.again("P17.2", q)
		}
	}
}

// noRoom must be that a Create of those parts is refused with the error, and that nothing has happened; with one more of what it lacks it is done.
func (k *kit) noRoom(q *plain, parts int, more func()) {
	k.t.Helper()
	c := k.opens("/c")
	k.refuses("P17.2", c, q, "new", parts, set(), full)
	k.refuses("P17.2", c, q, "a0", parts, set(), exist)
	k.again("P17.2", q)
	more()
	blocks, inodes := k.f.Free()
	k.creates("P17.2", c, q, "new", parts, set())
	k.is("P17.2", c, q)
	k.again("P17.2", q)
	if b, i := k.f.Free(); b != 0 && i != 0 {
		k.t.Errorf("P17.2: Create of %d parts had %d blocks and %d inodes, and left %d and %d", parts, blocks, inodes, b, i)
	}
}

// needs is what a Create takes: blocks and inodes.
func needs(k *kit, parts int) (blocks, inodes int) {
	k.t.Helper()
	fork := k.fork()
	b, i := fork.f.Free()
	if _, e := fork.opens("/c").Create("new", parts, set()); e != ok {
		k.t.Fatalf("P17.2: Create with room = %d", e)
	}
	blocks, inodes = fork.f.Free()
	return b - blocks, i - inodes
}

// TestNoBlocks: with one block less than a Create needs nothing of it has happened; with just as many it is done.
func TestNoBlocks(t *testing.T) {
	for _, topics := range []int{1, 6, 13} { // where the directory's own blocks, or the next one, have room, or not
		for parts := 1; parts <= 8; parts++ {
			old := made(t, 600, 200)
			_, q := old.has(topics)
			need, _ := needs(old, parts)
			for _, left := range []int{0, need / 2, need - 1} {
				k, q := old.fork(), q.clone()
				k.leaves(left)
				if left == need-1 {
					k.noRoom(q, parts, func() { k.do(k.f.Truncate("/fill/0", 9*512)) })
					continue
				}
				k.refuses("P17.2", k.opens("/c"), q, "new", parts, set(), full)
			}
		}
	}
}

// TestNoInodes: likewise for inodes, of which a part has three.
func TestNoInodes(t *testing.T) {
	for parts := 1; parts <= 8; parts++ {
		old := made(t, 600, 100)
		_, q := old.has(2)
		if _, need := needs(old, parts); need != 3*parts {
			t.Errorf("P17.2: Create of %d parts takes %d inodes", parts, need)
		}
		for left := range 3 * parts {
			k, q := old.fork(), q.clone()
			k.leavesInodes(left)
			if left == 3*parts-1 {
				k.noRoom(q, parts, func() { k.do(k.f.Remove("/taken/0")) })
				continue
			}
			k.refuses("P17.2", k.opens("/c"), q, "new", parts, set(), full)
		}
	}
}

// TestDeleteNeedsNoRoom: with no room at all topics are deleted and swept.
func TestDeleteNeedsNoRoom(t *testing.T) {
	k := made(t, 600, 200)
	c, q := k.has(5)
	k.leavesInodes(41) // those that the files take which take the blocks
	k.leaves(0)
	if blocks, inodes := k.f.Free(); blocks != 0 || inodes != 0 {
		t.Fatalf("the test's own device has %d blocks and %d inodes left", blocks, inodes)
	}
	for i := range 5 {
		k.deletes("P17.2", c, q, fmt.Sprint("a", i))
		k.again("P17.2", q)
	}
	k.sweepsAll("P17.3", c, q)
	k.goesOn("P17.2", q)
}

// TestFind: names that are there, and those that are nearly so.
func TestFind(t *testing.T) {
	k := made(t, 900, 200)
	c, q := k.makes("/c")
	for _, name := range []string{"a", "ab", "b", strings.Repeat("n", 50), strings.Repeat("n", 49)} {
		k.creates("P17.2", c, q, name, 1, set())
	}
	k.is("P17.2", c, q)
	for _, name := range []string{"A", "aa", "abc", "ba", "c", "t1-0", "catalog", "a ", " a", strings.Repeat("n", 48), strings.Repeat("n", 49) + "m"} {
		if x, found := c.Find(name); x != (catalog.Topic{}) || found {
			t.Errorf("P17.2: Find(%q) = %v %v", name, x, found)
		}
	}
}

// TestList: by rising names, byte by byte.
func TestList(t *testing.T) {
	k := made(t, 900, 200)
	c, q := k.makes("/c")
	rising := []string{"\x01", " ", "-", "0", "10", "2", "A", "B", "Z", "a", "a0", "aa", "ab", "b", "\x7f", "\xc3\xa4", "\xff", "\xff\xff"}
	for i := range rising {
		k.creates("P17.2", c, q, rising[i*7%len(rising)], 1, set())
	}
	for range 2 {
		var names []string
		for _, x := range c.List() {
			names = append(names, x.Name)
		}
		if !reflect.DeepEqual(names, rising) {
			t.Errorf("P17.2: List() tells %q, want %q", names, rising)
		}
		c = k.opens("/c")
	}
}

// TestListIsCopy: what is answered is new memory: who changes it changes nothing.
func TestListIsCopy(t *testing.T) {
	k := made(t, 900, 200)
	c, q := k.has(5)
	one, two := c.List(), c.List()
	for i := range one {
		one[i] = catalog.Topic{Name: "gone", ID: -1}
	}
	one = append(one[:0], one[1:]...)
	x, _ := c.Find("a0")
	x.Name, x.ID, x.Set.Segment = "gone", 99, 0
	if !reflect.DeepEqual(two, q.list()) {
		t.Errorf("P17.2: a list that was told is %v, want %v", two, q.list())
	}
	k.is("P17.2", c, q)
	k.again("P17.2", q)
}

// TestDelete: names that are not there, that may not be, and the same twice; all else stays.
func TestDelete(t *testing.T) {
	k := made(t, 900, 200)
	c, q := k.has(6)
	refuse := func(name string) {
		t.Helper()
		k.still("P17.2", "a Delete that is refused", func() { k.deletes("P17.2", c, q, name) })
		k.is("P17.2", c, q)
	}
	for _, name := range append(wrongNames(), "q", "A0", "a", "a00", "a6", "t1-0", "catalog") {
		refuse(name)
	}
	for _, i := range []int{3, 0, 5} {
		name := fmt.Sprint("a", i)
		was := showAt(k.f, "/c/t1-0")
		k.deletes("P17.2", c, q, name)
		k.is("P17.2", c, q)
		k.again("P17.2", q)
		refuse(name)
		if showAt(k.f, "/c/t1-0") != was {
			t.Error("P17.3: Delete touched what only Sweep removes")
		}
	}
	none, _ := k.makes("/none")
	k.fails(api.ErrNone, none.Delete("a1"), none.Delete(""))
	k.goesOn("P17.2", q)
}
