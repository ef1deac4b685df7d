package groups_test

import (
	"fmt"
	"strings"
	"testing"

	"bollard/api"
	"bollard/fs"
	"bollard/groups"
	"bollard/part"
)

// TestExample is the chapter's own.
func TestExample(t *testing.T) {
	k := made(t, 700, 60)
	g, _ := k.makes("/g")
	for _, offset := range []int{5, 7} {
		if e := g.Commit(groups.Key{Group: "g", Topic: 1, Part: 0}, offset, 0); e != ok {
			t.Errorf("P18.2: Commit({g, 1, 0}, %d, 0) = %d", offset, e)
		}
	}
	if offset, e := g.Find(groups.Key{Group: "g", Topic: 1, Part: 0}); offset != 7 || e != ok {
		t.Errorf("P18.2: Find({g, 1, 0}) = %d %d, want 7", offset, e)
	}
	if g.Len() != 1 {
		t.Errorf("P18.2: Len() = %d, want 1", g.Len())
	}
}

// TestMake: no offsets, wherever they may be; there it goes on.
func TestMake(t *testing.T) {
	k := made(t, 900, 100)
	k.do(k.f.Mkdir("/d"), k.f.Mkdir("/d/e"))
	for _, dir := range []string{"/g", "/d/g", "/d/e/offsets", "/" + strings.Repeat("n", 50)} {
		g, q := k.makes(dir)
		k.is("P18.1", g, q)
		k.again("P18.1", q)
		k.goesOn("P18.1", q)
	}
}

// TestMakeIsPart: what Make makes is what 15's Make makes, byte for byte, and takes as much room.
func TestMakeIsPart(t *testing.T) {
	k, other := made(t, 400, 20), made(t, 400, 20)
	k.do(groups.Make(k.f, "/g"))
	other.do(part.Make(other.f, "/g", set()))
	if got, want := show(k.f), show(other.f); got != want {
		t.Errorf("P18.1: Make left\n%s\nwant\n%s", got, want)
	}
	p := k.log("/g")
	if p.Start() != 0 || p.Next() != 0 || fmt.Sprint(p.Segments()) != "[0]" {
		t.Errorf("P18.1: the partition is %d %d %v", p.Start(), p.Next(), p.Segments())
	}
}

// TestSettings: the partition grows, and is compacted, by the settings that P18.1 names: as one does to which the same was Appended.
func TestSettings(t *testing.T) {
	k, other := made(t, 900, 60), made(t, 900, 60)
	g, q := k.makes("/g")
	other.do(part.Make(other.f, "/g", set()))
	p := other.log("/g")
	for i := range 300 {
		k.commits("P18.2", g, q, nth(i*i%50), i, i)
		l, e := k.log("/g").Read(i, 1)
		k.do(e)
		if len(l) != 1 {
			t.Fatalf("P18.2: at the offset %d are %d batches", i, len(l))
		}
		_, e = p.Append(0, 0, l[0].Records)
		k.do(e)
	}
	is := func() {
		t.Helper()
		if got, want := showAt(k.f, "/g"), showAt(other.f, "/g"); got != want {
			t.Fatalf("P18.1: the partition is\n%s\nwant\n%s", got, want)
		}
	}
	is()
	n := 0
	for more := true; more; n++ {
		want, e := p.Compact(1000)
		other.do(e)
		if more, e = g.Compact(1000); more != want || e != ok {
			t.Fatalf("P18.3: Compact = %v %d, want %v", more, e, want)
		}
		is()
	}
	if n < 4 || len(p.Segments()) < 5 {
		t.Errorf("the test's own partition was compacted %d times, and has the segments %v", n, p.Segments())
	}
	k.again("P18.3", q)
}

// deep is a path of n names, all directories but the last one, which is not there.
func (k *kit) deep(n int) string {
	k.t.Helper()
	path := ""
	for i := 1; i < n; i++ {
		path += fmt.Sprint("/", i)
		k.f.Mkdir(path)
	}
	return path + "/g"
}

// TestMakeDeep: below a path of eight names there is no room for segments.
func TestMakeDeep(t *testing.T) {
	for n := 1; n < 10; n++ {
		k := made(t, 900, 100)
		dir := k.deep(n)
		if n > 7 {
			k.refused(dir, arg, ok)
			continue
		}
		_, q := k.makes(dir)
		k.again("P18.1", q)
		k.goesOn("P18.2", q)
	}
}

// refused must be the error of Make and of Open, each unless it is OK; with it nothing has changed.
func (k *kit) refused(dir string, make, open api.Errno) {
	k.t.Helper()
	k.still("P18.1", fmt.Sprintf("Make or Open of %.60q", dir), func() {
		k.t.Helper()
		if make != ok {
			if e := groups.Make(k.f, dir); e != make {
				k.t.Fatalf("P18.1: Make(%.60q) = %d, want %d", dir, e, make)
			}
		}
		if open != ok {
			if g, e := groups.Open(k.f, dir); g != nil || e != open {
				k.t.Fatalf("P18.1: Open(%.60q) = %v %d, want %d", dir, g, e, open)
			}
		}
	})
}

// TestRefused: paths that are there already, that may not be, and that nothing leads to.
func TestRefused(t *testing.T) {
	k := made(t, 900, 100)
	k.knows(3)
	k.do(k.f.Create("/x"), k.f.Append("/x", []byte("text")), k.f.Mkdir("/d"), k.f.Mkdir("/d/e"), k.f.Mkdir("/f"), k.f.Create("/f/x"))
	for dir, want := range map[string][2]api.Errno{
		"":                                {arg, arg},
		"g":                               {arg, arg},
		"/g/":                             {arg, arg},
		"//":                              {arg, arg},
		"/.":                              {arg, arg},
		"/..":                             {arg, arg},
		"/a\x00":                          {arg, arg},
		"/g\x00":                          {arg, arg},
		strings.Repeat("/d", 9):           {arg, arg},
		strings.Repeat("/d", 8):           {none, none},
		"/" + strings.Repeat("n", 51):     {arg, arg},
		"/" + strings.Repeat("n", 200000): {arg, arg},
		"/":                               {exist, bad},
		"/d":                              {exist, bad},
		"/d/e":                            {exist, bad},
		"/f":                              {exist, bad},
		"/g":                              {exist, ok},
		"/x":                              {exist, kind},
		"/f/x":                            {exist, kind},
		"/g/00000000000000000000":         {exist, kind},
		"/x/q":                            {kind, kind},
		"/g/00000000000000000000/q":       {kind, kind},
		"/q":                              {ok, none},
		"/d/q":                            {ok, none},
		"/q/r":                            {none, none},
	} {
		k.refused(dir, want[0], want[1])
	}
}

// TestNoFileSystem: on none, or on one that was not mounted, all is off.
func TestNoFileSystem(t *testing.T) {
	for _, f := range []*fs.FS{nil, {}} {
		for _, dir := range []string{"/g", "", "/", "/g/h"} {
			if e := groups.Make(f, dir); e != off {
				t.Errorf("P18.1: Make(%q) without a file system = %d, want ErrOff", dir, e)
			}
			if g, e := groups.Open(f, dir); g != nil || e != off {
				t.Errorf("P18.1: Open(%q) without a file system = %v %d, want ErrOff", dir, g, e)
			}
		}
	}
}

// TestMakeNoRoom: without room, for blocks or for inodes, nothing is left of Make.
func TestMakeNoRoom(t *testing.T) {
	try := func(k *kit, seen map[api.Errno]int) {
		t.Helper()
		e := groups.Make(k.fork().f, "/g")
		seen[e]++
		switch e {
		case ok:
			_, q := k.makes("/g")
			k.again("P18.1", q)
		case full:
			k.refused("/g", full, none)
		default:
			t.Fatalf("P18.1: Make = %d", e)
		}
	}
	blocks, inodes := map[api.Errno]int{}, map[api.Errno]int{}
	for left := range 5 {
		k := made(t, 400, 60)
		k.prepares()
		k.leaves(left)
		try(k, blocks)
		k = made(t, 400, 20)
		k.leavesInodes(left)
		try(k, inodes)
	}
	if blocks[ok] == 0 || blocks[full] == 0 {
		t.Errorf("P18.1: with few blocks what Make answered was %v times", blocks)
	}
	if inodes[ok] != 3 || inodes[full] != 2 {
		t.Errorf("P18.1: with few inodes what Make answered was %v times", inodes)
	}
}

// TestMakePower: all of it is there, without offsets, or nothing.
func TestMakePower(t *testing.T) {
	seen := [2]int{}
	old := made(t, 400, 20)
	was := show(old.f)
	for cut := 0; ; cut++ {
		k := old.fork()
		k.d.Cut(cut)
		e := groups.Make(k.f, "/g")
		if e != ok && e != off {
			t.Fatalf("P18.1: Make cut at op %d = %d", cut, e)
		}
		for _, pick := range picks() {
			crashed := mounted(t, k.d.Crash(pick))
			if show(crashed.f) == was && e == off {
				seen[0]++
				continue
			}
			seen[1]++
			crashed.again("P18.1", newPlain("/g"))
		}
		if e == ok {
			break
		}
	}
	if seen[0] == 0 || seen[1] == 0 {
		t.Errorf("P18.1: the cuts left all %d times, nothing %d times", seen[1], seen[0])
	}
}
