package catalog_test

import (
	"fmt"
	"strings"
	"testing"

	"bollard/api"
	"bollard/catalog"
	"bollard/fs"
)

// TestExample is the chapter's own.
func TestExample(t *testing.T) {
	k := made(t, 700, 60)
	c, _ := k.makes("/c")
	is := func(promise, want string) {
		t.Helper()
		if got := fmt.Sprint(k.folders("/c")); got != want {
			t.Errorf("%s: the directories are %s, want %s", promise, got, want)
		}
	}
	if x, e := c.Create("a", 2, set()); x != (catalog.Topic{Name: "a", ID: 1, Parts: 2, Set: set()}) || e != ok {
		t.Errorf("P17.2: Create(a, 2) = %v %d", x, e)
	}
	is("P17.2", "map[t1-0:[00000000000000000000 producers] t1-1:[00000000000000000000 producers]]")
	if e := c.Delete("a"); e != ok {
		t.Errorf("P17.2: Delete(a) = %d", e)
	}
	if x, e := c.Create("a", 2, set()); x != (catalog.Topic{Name: "a", ID: 2, Parts: 2, Set: set()}) || e != ok {
		t.Errorf("P17.2: Create(a, 2) again = %v %d", x, e)
	}
	for i := range 6 {
		if gone, e := c.Sweep(); !gone || e != ok {
			t.Errorf("P17.3: Sweep() the %d. time = %v %d, want true", i+1, gone, e)
		}
	}
	is("P17.3", "map[t2-0:[00000000000000000000 producers] t2-1:[00000000000000000000 producers]]")
	if gone, e := c.Sweep(); gone || e != ok {
		t.Errorf("P17.3: Sweep() of nothing = %v %d, want false", gone, e)
	}
}

// TestMake: a catalog of no topics, wherever it may be; there it goes on.
func TestMake(t *testing.T) {
	k := made(t, 900, 100)
	k.do(k.f.Mkdir("/d"), k.f.Mkdir("/d/e"))
	for _, dir := range []string{"/c", "/d/c", "/d/e/t1-0", "/" + strings.Repeat("n", 50)} {
		c, q := k.makes(dir)
		k.is("P17.1", c, q)
		k.again("P17.1", q)
		k.goesOn("P17.1", q)
	}
}

// deep is a path of n names, all directories but the last one, which is not there.
func (k *kit) deep(n int) string {
	k.t.Helper()
	path := ""
	for i := 1; i < n; i++ {
		path += fmt.Sprint("/", i)
		k.f.Mkdir(path)
	}
	return path + "/c"
}

// TestMakeDeep: below a path of eight names there is no room for a catalog; below one of six there is for partitions, too.
func TestMakeDeep(t *testing.T) {
	for n := 1; n < 10; n++ {
		k := made(t, 900, 100)
		dir := k.deep(n)
		if n > 7 {
			k.still("P17.1", "Make that is refused", func() { k.fails(arg, catalog.Make(k.f, dir)) })
			continue
		}
		c, q := k.makes(dir)
		k.again("P17.1", q)
		if n > 6 {
			k.refuses("P17.2", c, q, "a", 1, set(), arg)
			k.refuses("P17.2", c, q, "a", 8, set(), arg)
			k.fails(none, c.Delete("a"))
			k.sweepsAll("P17.3", c, q)
			continue
		}
		k.goesOn("P17.2", q)
	}
}

// refused must be the error of Make and of Open, each unless it is OK; with it nothing has changed.
func (k *kit) refused(dir string, make, open api.Errno) {
	k.t.Helper()
	k.still("P17.1", fmt.Sprintf("Make or Open of %.60q", dir), func() {
		k.t.Helper()
		if make != ok {
			if e := catalog.Make(k.f, dir); e != make {
				k.t.Fatalf("P17.1: Make(%.60q) = %d, want %d", dir, e, make)
			}
		}
		if open != ok {
			if c, e := catalog.Open(k.f, dir); c != nil || e != open {
				k.t.Fatalf("P17.1: Open(%.60q) = %v %d, want %d", dir, c, e, open)
			}
		}
	})
}

// TestRefused: paths that are there already, that may not be, and that nothing leads to.
func TestRefused(t *testing.T) {
	k := made(t, 900, 100)
	k.has(3)
	k.do(k.f.Create("/x"), k.f.Append("/x", []byte("text")), k.f.Mkdir("/d"), k.f.Mkdir("/d/e"), k.f.Mkdir("/f"), k.f.Create("/f/x"))
	for dir, want := range map[string][2]api.Errno{
		"":                                {arg, arg},
		"c":                               {arg, arg},
		"/c/":                             {arg, arg},
		"//":                              {arg, arg},
		"/.":                              {arg, arg},
		"/..":                             {arg, arg},
		"/a\x00":                          {arg, arg},
		"/c\x00":                          {arg, arg},
		strings.Repeat("/d", 9):           {arg, arg},
		strings.Repeat("/d", 8):           {none, none},
		"/" + strings.Repeat("n", 51):     {arg, arg},
		"/" + strings.Repeat("n", 200000): {arg, arg},
		"/":                               {exist, bad},
		"/d":                              {exist, bad},
		"/d/e":                            {exist, bad},
		"/f":                              {exist, bad},
		"/c/t1-0":                         {exist, bad},
		"/c":                              {exist, ok},
		"/x":                              {exist, kind},
		"/f/x":                            {exist, kind},
		"/c/catalog":                      {exist, kind},
		"/x/q":                            {kind, kind},
		"/c/catalog/q":                    {kind, kind},
		"/q":                              {ok, none},
		"/d/q":                            {ok, none},
		"/q/r":                            {none, none},
	} {
		k.refused(dir, want[0], want[1])
	}
}

// TestNoFileSystem: on none, or on one that was not mounted, all is off.
func TestNoFileSystem(t *testing.T) {
	for _, f := range []*fs.FS{nil, {}} {
		for _, dir := range []string{"/c", "", "/", "/c/d"} {
			if e := catalog.Make(f, dir); e != off {
				t.Errorf("P17.1: Make(%q) without a file system = %d, want ErrOff", dir, e)
			}
			if c, e := catalog.Open(f, dir); c != nil || e != off {
				t.Errorf("P17.1: Open(%q) without a file system = %v %d, want ErrOff", dir, c, e)
			}
		}
	}
}

// TestMakeNoRoom: without room, for blocks or for inodes, nothing is left of Make.
func TestMakeNoRoom(t *testing.T) {
	seen := map[api.Errno]int{}
	try := func(k *kit) {
		t.Helper()
		switch e := catalog.Make(k.fork().f, "/c"); e {
		case ok:
			_, q := k.makes("/c")
			k.again("P17.1", q)
			seen[ok]++
		case full:
			k.refused("/c", full, none)
			seen[full]++
		default:
			t.Fatalf("P17.1: Make = %d", e)
		}
	}
	for left := range 10 {
		k := made(t, 400, 60)
		k.leaves(left)
		try(k)
	}
	if seen[ok] == 0 || seen[full] < 2 {
		t.Errorf("P17.1: with few blocks what Make answered was %v times", seen)
	}
	seen = map[api.Errno]int{}
	for left := range 5 {
		k := made(t, 400, 20)
		k.leavesInodes(left)
		try(k)
	}
	if seen[ok] != 3 || seen[full] != 2 {
		t.Errorf("P17.1: with few inodes what Make answered was %v times", seen)
	}
}

// TestMakePower: the catalog is there, without topics, or it is not there.
func TestMakePower(t *testing.T) {
	seen := [2]int{}
	old := made(t, 400, 20)
	was := show(old.f)
	for cut := 0; ; cut++ {
		k := old.fork()
		k.d.Cut(cut)
		e := catalog.Make(k.f, "/c")
		if e != ok && e != off {
			t.Fatalf("P17.1: Make cut at op %d = %d", cut, e)
		}
		for _, pick := range picks() {
			crashed := mounted(t, k.d.Crash(pick))
			if show(crashed.f) == was && e == off {
				seen[0]++
				continue
			}
			seen[1]++
			crashed.again("P17.1", newPlain("/c"))
		}
		if e == ok {
			break
		}
	}
	if seen[0] == 0 || seen[1] == 0 {
		t.Errorf("P17.1: the cuts left all %d times, nothing %d times", seen[1], seen[0])
	}
}
