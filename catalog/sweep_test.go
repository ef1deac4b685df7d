package catalog_test

import (
	"fmt"
	"slices"
	"strconv"
	"strings"
	"testing"

	"bollard/api"
	"bollard/catalog"
	"bollard/part"
	"bollard/producers"
)

// TestDir: of any topic, also of one that is none, and of any number of a part.
func TestDir(t *testing.T) {
	k := made(t, 900, 200)
	dirs := []string{"/c", "/d/e/c", k.deep(6)}
	k.do(k.f.Mkdir("/d"), k.f.Mkdir("/d/e"))
	for _, dir := range dirs {
		c, q := k.makes(dir)
		k.creates("P17.2", c, q, "a", 2, set())
		x, _ := c.Find("a")
		numbers := []int{least, least + 1, -1, 0, 1, 7, 8, 10, 77, 1 << 40, most}
		for _, n := range numbers {
			if got, want := c.Dir(x, n), dir+"/t1-"+strconv.Itoa(n); got != want {
				t.Errorf("P17.3: Dir(%v, %d) = %q, want %q", x, n, got, want)
			}
			for _, id := range numbers {
				want := dir + "/t" + strconv.Itoa(id) + "-" + strconv.Itoa(n)
				for _, x := range []catalog.Topic{{ID: id}, {Name: "q/r", ID: id, Parts: -5}} {
					if got := c.Dir(x, n); got != want {
						t.Errorf("P17.3: Dir(%v, %d) = %q, want %q", x, n, got, want)
					}
				}
			}
		}
	}
}

// TestSweepNothing: where no directory is left, nothing is done.
func TestSweepNothing(t *testing.T) {
	for _, n := range []int{0, 1, 20} {
		k := made(t, 900, 200)
		c, q := k.has(n)
		for range 3 {
			k.still("P17.3", "Sweep of nothing", func() {
				if gone, e := c.Sweep(); gone || e != ok {
					t.Errorf("P17.3: Sweep() = %v %d, want false", gone, e)
				}
			})
			c = k.opens("/c")
		}
		k.again("P17.3", q)
	}
}

// appends fills a part: several segments, and a producer.
func (k *kit) appends(q *plain, x catalog.Topic, n, batches int) {
	k.t.Helper()
	at := q.dir + "/" + folder(x.ID, n)
	p, e := part.Open(k.f, at, x.Set)
	known, code := producers.Open(k.f, at+"/producers")
	k.do(e, code)
	for i := range batches {
		r := api.Record{HasKey: true, Key: fmt.Sprint(i), HasVal: true, Val: strings.Repeat("v", 300)}
		base, e := p.Append(7, i, []api.Record{r})
		k.do(e, known.Accept(7, i, base))
	}
	q.folders[folder(x.ID, n)] = k.folders(q.dir)[folder(x.ID, n)]
}

// TestSweep: the least name of the least directory first, each call one file, or one directory that is empty; behind Open too.
func TestSweep(t *testing.T) {
	for _, opens := range []bool{false, true} {
		k := made(t, 1500, 300)
		c, q := k.makes("/c")
		for i := range 12 { // so that t10-0 and t11-0 are less than t2-0
			k.creates("P17.2", c, q, fmt.Sprint("a", i), 1+i%3, leastSet())
		}
		for i, x := range q.list() {
			k.appends(q, x, 0, i%4)
		}
		for _, name := range []string{"a1", "a9", "a10", "a3", "a2"} {
			k.deletes("P17.2", c, q, name)
		}
		k.is("P17.2", c, q)
		if want := "[t10-0 t11-0 t11-1 t2-0 t2-1 t3-0 t3-1 t3-2 t4-0]"; fmt.Sprint(q.orphans()) != want {
			t.Fatalf("the test's own list is %v, want %s", q.orphans(), want)
		}
		files := 0
		for _, name := range q.orphans() {
			files += 1 + len(q.folders[name])
		}
		for n := range files + 2 {
			if opens {
				c = k.opens("/c")
			}
			if gone := k.sweeps("P17.3", c, q); gone != (n < files) {
				t.Fatalf("P17.3: Sweep() the %d. time of %d = %v", n+1, files, gone)
			}
			k.is("P17.3", c, q)
		}
		fork := k.fork()
		fork.is("P17.3", fork.opens("/c"), q)
	}
}

// TestSweepFiles: what of a deleted topic is there stays, byte for byte, until its turn comes.
func TestSweepFiles(t *testing.T) {
	k := made(t, 900, 100)
	c, q := k.makes("/c")
	k.creates("P17.2", c, q, "a", 2, leastSet())
	x, _ := c.Find("a")
	k.appends(q, x, 0, 3)
	k.appends(q, x, 1, 2)
	was := map[string]string{}
	for name, l := range q.folders {
		for _, inside := range l {
			was[name+"/"+inside] = showAt(k.f, "/c/"+name+"/"+inside)
		}
	}
	k.deletes("P17.2", c, q, "a")
	for k.sweeps("P17.3", c, q) {
		k.is("P17.3", c, q)
		for name, l := range q.folders {
			for _, inside := range l {
				if now := showAt(k.f, "/c/"+name+"/"+inside); now != was[name+"/"+inside] {
					t.Fatalf("P17.3: %s/%s is %s, was %s", name, inside, now, was[name+"/"+inside])
				}
			}
		}
	}
}

// TestSweepNearly: names that are not of the form stay, and files of that form too, while those that are go.
func TestSweepNearly(t *testing.T) {
	k := made(t, 1500, 300)
	c, q := k.has(3)
	k.deletes("P17.2", c, q, "a1")
	long := strings.Repeat("9", 20)
	stay := []string{
		"t01-0", "t9-00", "t-9-0", "t9--1", "t-9--1", "t-0-0", "t9--0", "t9-01", "t09-0", "t00-0", "t+9-0", "t9-+0", "t9-+1", "t9-", "t-0", "t-", "t", "t9", "t90", "-", "9-0", "x9-0", "T9-0", "tt9-0", "t9-0-", "t9-0-0", "t9--", "t9_0", "t9-0 ", " t9-0", "t 9-0", "t9- 0",
		"t9-x", "tx-0", "t9x-0", "t9-0x", "t9.0-0", "t9-0.0", "t0x9-0", "t9-0x1", "t9e1-0", "t1_0-0", "t9-1_0", "t9-\xff", "t\xd9\xa3-0", "t9-0.new", "producers", "00000000000000000000",
		"t" + long + "-0", "t9-" + long, "t9223372036854775808-0", "t9-9223372036854775808", "t18446744073709551617-0", "t9-18446744073709551616", "t" + strings.Repeat("9", 47) + "-0", "t1-" + strings.Repeat("1", 47),
	}
	for _, name := range stay {
		k.do(k.f.Mkdir("/c/"+name), k.f.Create("/c/"+name+"/x"))
		q.folders[name] = []string{"x"}
	}
	for _, name := range []string{"t2-9", "t9-9", "t1-9", "t0-9", "s", "t5", "z"} { // files stay, of whichever topic
		k.do(k.f.Create("/c/"+name), k.f.Append("/c/"+name, []byte("text")))
	}
	was := k.fork()
	for _, name := range []string{"t9-0", "t9-77", "t100-0", "t0-0", "t9223372036854775807-9223372036854775807"} {
		k.do(k.f.Mkdir("/c/" + name))
		q.folders[name] = []string{}
	}
	k.do(k.f.Create("/c/t9-77/y"), k.f.Create("/c/t9-77/x"))
	q.folders["t9-77"] = []string{"x", "y"}
	if n := k.sweepsAll("P17.3", c, q); n != 3+7 {
		t.Errorf("P17.3: Sweep told true %d times", n)
	}
	for _, name := range []string{"t2-9", "t9-9", "t1-9", "t0-9", "s", "t5", "z", "catalog"} {
		if now, want := showAt(k.f, "/c/"+name), showAt(was.f, "/c/"+name); now != want {
			t.Errorf("P17.3: the file %s is %s, was %s", name, now, want)
		}
	}
	k.again("P17.3", q)
}

// TestSweepTopics: of a topic that is there nothing goes, whatever is in its directories, and beside them.
func TestSweepTopics(t *testing.T) {
	k := made(t, 900, 200)
	c, q := k.has(3)
	for _, name := range []string{"t1-1", "t1-7", "t2-99", "t3-9223372036854775807"} { // directories of that form, with the ID of a topic
		k.do(k.f.Mkdir("/c/"+name), k.f.Create("/c/"+name+"/x"))
		q.folders[name] = []string{"x"}
	}
	k.still("P17.5", "Sweep", func() { k.sweepsAll("P17.5", c, q) })
	k.deletes("P17.2", c, q, "a1")
	k.sweepsAll("P17.5", c, q)
	if _, there := q.folders["t2-99"]; there {
		t.Error("the test's own list has what should have gone")
	}
	k.again("P17.5", q)
}

// TestSweepInner: a directory within one that is swept: no call panics, and each ends; what is elsewhere stays.
func TestSweepInner(t *testing.T) {
	k := made(t, 900, 200)
	c, q := k.has(2)
	was := showAt(k.f, "/c/t1-0") + showAt(k.f, "/c/t2-0")
	k.do(k.f.Mkdir("/c/t9-0"), k.f.Mkdir("/c/t9-0/d"), k.f.Create("/c/t9-0/a"), k.f.Create("/c/t9-0/z"), k.f.Create("/c/t9-0/d/x"))
	k.do(k.f.Mkdir("/c/t8-0"), k.f.Mkdir("/c/t8-0/d"))
	var last api.Errno
	for range 20 {
		var gone bool
		if gone, last = c.Sweep(); gone && last != ok {
			t.Fatalf("P17.3: Sweep() = %v %d", gone, last)
		}
	}
	if last != busy {
		t.Errorf("P17.3: Sweep() of a directory with one in it that is not empty = %d, want 10's ErrBusy", last)
	}
	k.still("P17.3", "Sweep that is refused", func() { c.Sweep() })
	if showAt(k.f, "/c/t1-0")+showAt(k.f, "/c/t2-0") != was {
		t.Error("P17.5: Sweep touched what topics have")
	}
	k.do(k.f.Remove("/c/t9-0/d/x"))
	k.sweepsRest(c)
	k.again("P17.3", q)
}

// sweepsRest sweeps until false is told.
func (k *kit) sweepsRest(c *catalog.Catalog) (n int) {
	k.t.Helper()
	for {
		gone, e := c.Sweep()
		k.do(e)
		if !gone {
			return n
		}
		n++
	}
}

// TestSweepRoom: until false is told: all the room of what was deleted is free again, what topics have is as it was, and there is room to create.
func TestSweepRoom(t *testing.T) {
	k := made(t, 1500, 300)
	c, q := k.makes("/c")
	for i := range 16 { // the directory's slots never become fewer: they are taken once ahead
		k.creates("P17.2", c, q, fmt.Sprint("first", i), 1, set())
	}
	for i := range 14 {
		k.deletes("P17.2", c, q, fmt.Sprint("first", i))
	}
	k.sweepsAll("P17.3", c, q)
	x, _ := c.Find("first15")
	k.appends(q, x, 0, 5)
	blocks, inodes := k.f.Free()
	was := show(k.f)
	for range 3 {
		for i, parts := range []int{8, 1, 5} {
			name := fmt.Sprint("b", i)
			k.creates("P17.2", c, q, name, parts, leastSet())
			y, _ := c.Find(name)
			for n := range parts {
				k.appends(q, y, n, n)
			}
		}
		for i := range 3 {
			k.deletes("P17.2", c, q, fmt.Sprint("b", i))
		}
		if b, i := k.f.Free(); b >= blocks || i >= inodes {
			t.Errorf("P17.2: what was deleted is free ahead of Sweep")
		}
		k.sweepsAll("P17.3", c, q)
		if b, i := k.f.Free(); b != blocks || i != inodes {
			t.Errorf("P17.3: behind Sweep %d blocks and %d inodes are free, want %d and %d", b, i, blocks, inodes)
		}
	}
	if now := show(k.f); withoutFile(now) != withoutFile(was) {
		t.Errorf("P17.5: behind Sweep the file system is\n%s\nwas\n%s", now, was)
	}
	k.creates("P17.2", c, q, "b0", 8, mostSet())
	k.is("P17.2", k.opens("/c"), q)
}

// withoutFile is what show told, without the line of the catalog's file, whose IDs went on.
func withoutFile(text string) string {
	return strings.Join(slices.DeleteFunc(strings.Split(text, "\n"), func(s string) bool { return strings.HasPrefix(s, file+" ") }), "\n")
}

// TestSweepGone: the file system's errors for a catalog whose directory is not there any more.
func TestSweepGone(t *testing.T) {
	k := made(t, 900, 200)
	c, _ := k.has(1)
	k.do(k.f.Rename("/c", "/d"))
	k.still("P17.3", "calls of a catalog that is elsewhere", func() {
		if gone, e := c.Sweep(); gone || e != none {
			t.Errorf("P17.3: Sweep() = %v %d, want ErrNone", gone, e)
		}
		if x, e := c.Create("new", 1, set()); x != (catalog.Topic{}) || e != none {
			t.Errorf("P17.2: Create = %v %d, want ErrNone", x, e)
		}
		k.fails(none, c.Delete("a0"))
	})
	q := newPlain("/d")
	q.create("a0", 1, set())
	k.again("P17.1", q)
	k.goesOn("P17.1", q)
}
