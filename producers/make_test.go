package producers_test

import (
	"fmt"
	"strings"
	"testing"

	"bollard/api"
	"bollard/fs"
	"bollard/producers"
)

// TestExample is the chapter's own.
func TestExample(t *testing.T) {
	k := made(t, 400, 20)
	p := k.makes("/p")
	check := func(producer, seq, base int, again bool, want api.Errno) {
		t.Helper()
		if b, a, e := p.Check(producer, seq); b != base || a != again || e != want {
			t.Errorf("P16.2: Check(%d, %d) = %d %v %d, want %d %v %d", producer, seq, b, a, e, base, again, want)
		}
	}
	check(7, 0, 0, false, ok)
	if e := p.Accept(7, 0, 100); e != ok {
		t.Errorf("P16.3: Accept(7, 0, 100) = %d", e)
	}
	check(7, 0, 100, true, ok)
	check(7, 2, 0, false, gap)
	check(8, 1, 0, false, gap)
}

// TestMake: a file that knows nobody, wherever it may be.
func TestMake(t *testing.T) {
	k := made(t, 400, 30)
	k.do(k.f.Mkdir("/d"), k.f.Mkdir("/d/e"))
	for _, path := range []string{"/p", "/d/p", "/d/e/producers", "/" + strings.Repeat("n", 50)} {
		k.is("P16.1", k.makes(path), plain{})
		k.again("P16.1", path, plain{})
		if s, e := k.f.Stat(path); s.Kind != 1 || s.Size > limit || e != ok {
			t.Errorf("P16.1: Make(%q) left %v %d", path, s, e)
		}
		k.goesOn("P16.1", path, plain{})
	}
}

// refused must be the error of Make and of Open, each unless it is OK; with it nothing has changed.
func (k *kit) refused(path string, make, open api.Errno) {
	k.t.Helper()
	k.still("P16.1", fmt.Sprintf("Make or Open of %.60q", path), func() {
		k.t.Helper()
		if make != ok {
			if e := producers.Make(k.f, path); e != make {
				k.t.Fatalf("P16.1: Make(%.60q) = %d, want %d", path, e, make)
			}
		}
		if open != ok {
			if p, e := producers.Open(k.f, path); p != nil || e != open {
				k.t.Fatalf("P16.1: Open(%.60q) = %v %d, want %d", path, p, e, open)
			}
		}
	})
}

// TestRefused: paths that are there already, that may not be, and that nothing leads to.
func TestRefused(t *testing.T) {
	k := made(t, 400, 30)
	k.knows("/p", 3)
	k.do(k.f.Create("/x"), k.f.Append("/x", []byte("text")), k.f.Mkdir("/d"), k.f.Mkdir("/d/e"))
	for path, want := range map[string][2]api.Errno{
		"":                                {arg, arg},
		"p":                               {arg, arg},
		"/p/":                             {arg, arg},
		"//":                              {arg, arg},
		"/.":                              {arg, arg},
		"/..":                             {arg, arg},
		"/a\x00":                          {arg, arg},
		strings.Repeat("/d", 9):           {arg, arg},
		strings.Repeat("/d", 8):           {none, none},
		"/" + strings.Repeat("n", 51):     {arg, arg},
		"/" + strings.Repeat("n", 200000): {arg, arg},
		"/":                               {exist, kind},
		"/d":                              {exist, kind},
		"/d/e":                            {exist, kind},
		"/p":                              {exist, ok},
		"/x":                              {exist, bad},
		"/p/q":                            {kind, kind},
		"/x/q":                            {kind, kind},
		"/q":                              {ok, none},
		"/d/q":                            {ok, none},
		"/q/r":                            {none, none},
	} {
		k.refused(path, want[0], want[1])
	}
}

// TestNoFileSystem: on none, or on one that was not mounted, all is off.
func TestNoFileSystem(t *testing.T) {
	for _, f := range []*fs.FS{nil, {}} {
		for _, path := range []string{"/p", "", "/"} {
			if e := producers.Make(f, path); e != off {
				t.Errorf("P16.1: Make(%q) without a file system = %d, want ErrOff", path, e)
			}
			if p, e := producers.Open(f, path); p != nil || e != off {
				t.Errorf("P16.1: Open(%q) without a file system = %v %d, want ErrOff", path, p, e)
			}
		}
	}
}

// TestMakeNoRoom: Make answers what Create would; without room nothing is left of it.
func TestMakeNoRoom(t *testing.T) {
	seen := map[api.Errno]int{}
	for blocks := 250; blocks < 254; blocks++ { // one data block, and more
		for taken := range 8 {
			k := made(t, blocks, 8)
			for i := range taken {
				k.do(k.f.Create(fmt.Sprint("/x", i)))
			}
			want := k.fork().f.Create("/p")
			seen[want]++
			if want != ok {
				k.refused("/p", want, none)
				continue
			}
			k.is("P16.1", k.makes("/p"), plain{})
			k.again("P16.1", "/p", plain{})
		}
	}
	k := made(t, 252, 20)
	for i := 0; k.f.Create(fmt.Sprint("/x", i)) == ok; i++ {
	}
	if blocks, inodes := k.f.Free(); blocks != 0 || inodes == 0 {
		t.Fatalf("the test's own device has %d blocks and %d inodes left", blocks, inodes)
	}
	k.refused("/p", full, none)
	if seen[ok] == 0 || seen[full] == 0 {
		t.Errorf("P16.1: what Create answered was %v times", seen)
	}
}

// TestMakePower: the file is there, and knows nobody, or it is not there.
func TestMakePower(t *testing.T) {
	seen := [2]int{}
	old := made(t, 400, 20)
	was := show(old.f)
	for cut := 0; ; cut++ {
		k := old.fork()
		k.d.Cut(cut)
		e := producers.Make(k.f, "/p")
		if e != ok && e != off {
			t.Fatalf("P16.1: Make cut at op %d = %d", cut, e)
		}
		for _, pick := range picks() {
			crashed := mounted(t, k.d.Crash(pick))
			if show(crashed.f) == was && e == off {
				seen[0]++
				continue
			}
			seen[1]++
			crashed.again("P16.1", "/p", plain{})
		}
		if e == ok {
			break
		}
	}
	if seen[0] == 0 || seen[1] == 0 {
		t.Errorf("P16.1: the cuts left all %d times, nothing %d times", seen[1], seen[0])
	}
}
