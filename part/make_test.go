package part_test

import (
	"fmt"
	"strings"
	"testing"

	"bollard/api"
	"bollard/fs"
	"bollard/part"
)

// TestExample is the chapter's own.
func TestExample(t *testing.T) {
	k := made(t, 400, 20)
	p, q := k.filled(api.Settings{Segment: 512, Bytes: 0, Age: -1}, sized(t, 300), sized(t, 300), sized(t, 300))
	if l := p.Segments(); fmt.Sprint(l) != "[0 1 2]" {
		t.Errorf("P15.2: Segments() = %v, want each batch in a segment of its own", l)
	}
	for _, want := range []string{"[1 2]", "[2]", "[2]", "[2]"} {
		k.retains(p, q, 0)
		if l := p.Segments(); fmt.Sprint(l) != want {
			t.Errorf("P15.4: Segments() = %v, want %s", l, want)
		}
	}
}

// TestSettings: each field below, at and above each of its limits.
func TestSettings(t *testing.T) {
	set := func(segment, bytes, age, delay int) api.Settings {
		return api.Settings{Segment: segment, Bytes: bytes, Age: age, Delay: delay}
	}
	fields := []struct {
		least, most int
		of          func(n int) api.Settings
	}{
		{512, 8192, func(n int) api.Settings { return set(n, 0, 0, 0) }},
		{-1, 1 << 40, func(n int) api.Settings { return set(512, n, 0, 0) }},
		{-1, last, func(n int) api.Settings { return set(512, 0, n, 0) }},
		{0, last, func(n int) api.Settings { return set(512, 0, 0, n) }},
	}
	for _, x := range fields {
		for _, n := range []int{least, -2, -1, 0, 1, x.least - 1, x.least, x.least + 1, 2000, x.most - 1, x.most, x.most + 1, most} {
			for _, compact := range []bool{false, true} {
				s := x.of(n)
				s.Compact = compact
				if got, want := part.Settings(s), n >= x.least && n <= x.most; got != want {
					t.Errorf("P15.1: Settings(%v) = %v, want %v", s, got, want)
				}
			}
		}
	}
	if part.Settings(api.Settings{}) || !part.Settings(set(8192, 1<<40, last, last)) || !part.Settings(set(512, -1, -1, 0)) {
		t.Error("P15.1: Settings of the least and of the greatest")
	}
}

// wrongSets are settings that may not be, each by one field.
func wrongSets() []api.Settings {
	return []api.Settings{
		{}, {Segment: 511}, {Segment: 8193}, {Segment: -512}, {Segment: least}, {Segment: most},
		{Segment: 512, Bytes: -2}, {Segment: 512, Bytes: 1<<40 + 1}, {Segment: 512, Age: -2}, {Segment: 512, Age: last + 1}, {Segment: 512, Delay: -1}, {Segment: 512, Delay: last + 1},
	}
}

// TestMake: a directory with one empty segment, in one transaction.
func TestMake(t *testing.T) {
	k := made(t, 400, 30)
	k.do(k.f.Mkdir("/d"))
	for i, s := range []api.Settings{kept(512), kept(8192), {Segment: 600}, {Segment: 512, Bytes: 1 << 40, Age: last, Delay: last, Compact: true}} {
		for _, dir := range []string{fmt.Sprint("/p", i), fmt.Sprint("/d/", i)} {
			p := k.makes(dir, s)
			k.is("P15.1", p, newPlain(t, s))
			if p.Dir() != dir {
				t.Errorf("P15.1: Dir() = %q, want %q", p.Dir(), dir)
			}
			k.again("P15.1", dir, newPlain(t, s))
		}
	}
}

// refused must be the error of Make and of Open, each unless it is OK; with it nothing has changed.
func (k *kit) refused(dir string, s api.Settings, make, open api.Errno) {
	k.t.Helper()
	k.still("P15.1", fmt.Sprintf("Make or Open of %q", dir), func() {
		k.t.Helper()
		if make != ok {
			if e := part.Make(k.f, dir, s); e != make {
				k.t.Fatalf("P15.1: Make(%q, %v) = %d, want %d", dir, s, e, make)
			}
		}
		if open != ok {
			if p, e := part.Open(k.f, dir, s); p != nil || e != open {
				k.t.Fatalf("P15.1: Open(%q, %v) = %v %d, want %d", dir, s, p, e, open)
			}
		}
	})
}

// TestRefused: settings that may not be come ahead of paths; then the file system's errors; then a directory without segments.
func TestRefused(t *testing.T) {
	k := made(t, 400, 30)
	k.makes("/p", kept(512))
	deep := strings.Repeat("/d", 7)
	for i := range 7 {
		k.do(k.f.Mkdir(deep[:2*i+2]))
	}
	k.do(k.f.Create("/x"), k.f.Mkdir("/empty"))
	for _, s := range wrongSets() {
		for _, dir := range []string{"/p", "/new", "/q/r", "/x", "/x/y", "", "/"} {
			k.refused(dir, s, arg, arg)
		}
	}
	for dir, want := range map[string][2]api.Errno{
		"":               {arg, arg},
		"p":              {arg, arg},
		"/p/":            {arg, arg},
		"//":             {arg, arg},
		"/.":             {arg, arg},
		"/a\x00":         {arg, arg},
		deep + "/d/d":    {arg, arg},
		deep + "/d":      {arg, none}, // the directory could be, but not its segment
		"/" + long(51):   {arg, arg},
		"/" + long(2000): {arg, arg},
		"/":              {exist, bad},
		"/p":             {exist, ok},
		"/empty":         {exist, bad},
		"/x":             {exist, kind},
		"/x/y":           {kind, kind},
		"/q":             {ok, none},
		"/q/r":           {none, none},
	} {
		k.refused(dir, kept(512), want[0], want[1])
	}
}

func long(n int) string { return strings.Repeat("n", n) }

// TestNoFileSystem: on none, or on one that was not mounted, all is off; settings come first.
func TestNoFileSystem(t *testing.T) {
	for _, f := range []*fs.FS{nil, {}} {
		if e := part.Make(f, "/p", kept(512)); e != off {
			t.Errorf("P15.1: Make without a file system = %d, want ErrOff", e)
		}
		if p, e := part.Open(f, "/p", kept(512)); p != nil || e != off {
			t.Errorf("P15.1: Open without a file system = %v %d, want ErrOff", p, e)
		}
		if e := part.Make(f, "/p", kept(1)); e != arg {
			t.Errorf("P15.1: Make with settings that may not be = %d, want ErrArg", e)
		}
		if _, e := part.Open(f, "/p", kept(1)); e != arg {
			t.Errorf("P15.1: Open with settings that may not be = %d, want ErrArg", e)
		}
	}
}

// TestMakeNoRoom: where the directory has room, but its segment has none, nothing is left of it.
func TestMakeNoRoom(t *testing.T) {
	was, done := 0, 0
	for blocks := 250; blocks < 256; blocks++ { // one data block, and more
		for taken := range 8 {
			k := made(t, blocks, 8)
			for i := range taken {
				k.do(k.f.Create(fmt.Sprint("/x", i)))
			}
			k.makeFull(&was, &done)
		}
	}
	if was == 0 || done == 0 {
		t.Errorf("P15.1: of the devices %d had no room, %d had it", was, done)
	}
}

// makeFull makes a partition where there may be no room.
func (k *kit) makeFull(was, done *int) {
	k.t.Helper()
	old := show(k.f)
	switch e := part.Make(k.f, "/p", kept(512)); e {
	case ok:
		*done++
		k.again("P15.1", "/p", newPlain(k.t, kept(512)))
	case full:
		*was++
		if now := show(k.f); now != old {
			k.t.Fatalf("P15.1: Make without room left\n%s\nwas\n%s", now, old)
		}
		k.refused("/p", kept(512), full, none)
	default:
		k.t.Fatalf("P15.1: Make without room = %d", e)
	}
}
