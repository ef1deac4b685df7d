package segment_test

import (
	"fmt"
	"strings"
	"testing"

	"bollard/api"
	"bollard/fs"
	"bollard/segment"
)

// TestExample is the chapter's own.
func TestExample(t *testing.T) {
	k := made(t, 400, 20)
	s := k.makes("/s", 5)
	k.do(s.Append(timed(5, 2, 1, 2)), s.Append(timed(9, 1, 3)))
	if s.Next() != 10 {
		t.Errorf("P14.2: Next() = %d, want 10", s.Next())
	}
	if l := s.Read(7, 1); !same(l, []api.Batch{timed(9, 1, 3)}) {
		t.Errorf("P14.3: Read(7, 1) = %v, want the second one", shorts(l))
	}
}

func TestMake(t *testing.T) {
	k := made(t, 400, 20)
	k.do(k.f.Mkdir("/d"))
	for i, base := range []int{0, 1, 5, last - 1, last} {
		for _, path := range []string{fmt.Sprint("/s", i), fmt.Sprint("/d/s", i)} {
			s := k.makes(path, base)
			k.is("P14.1", s, path, plain{base: base})
			k.is("P14.1", k.opens(path, base), path, plain{base: base})
			b := timed(base, 3, 4)
			k.appends("P14.2", s, b, ok)
			k.is("P14.2", s, path, plain{base, []api.Batch{b}})
			k.is("P14.1", k.opens(path, base), path, plain{base, []api.Batch{b}})
		}
	}
}

// wrongBases are numbers that no segment begins at.
func wrongBases() []int {
	return []int{least, least + 1, -last, -2, -1, last + 1, 1 << 51, 1 << 62, most}
}

// TestBases: a base that may not be is ErrArg, whatever the path is, and ahead of what stands there.
func TestBases(t *testing.T) {
	k := made(t, 400, 20)
	k.do(k.f.Mkdir("/d"))
	k.lay("/bad", []byte("abc"))
	k.full("/s")
	for _, base := range wrongBases() {
		for _, path := range []string{"/new", "/s", "/bad", "/d", "/none/x", "/s/x", "", "/", "//"} {
			k.refuses(path, base, arg, arg)
		}
		for _, f := range []*fs.FS{nil, {}} {
			if s, e := segment.Make(f, "/new", base); s != nil || e != arg {
				t.Errorf("P14.1: Make on no file system with the base %d = %v %d, want ErrArg", base, s, e)
			}
			if s, e := segment.Open(f, "/s", base); s != nil || e != arg {
				t.Errorf("P14.1: Open on no file system with the base %d = %v %d, want ErrArg", base, s, e)
			}
		}
	}
}

// TestPaths: the errors of chapter 10 for paths.
func TestPaths(t *testing.T) {
	k := made(t, 400, 20)
	k.do(k.f.Mkdir("/d"), k.f.Create("/d/e"))
	k.full("/s")
	long := strings.Repeat("n", 51)
	for _, base := range []int{0, 5, last} {
		for _, path := range []string{"", "s", "/s/", "//s", "/.", "/..", "/a\x00", "/" + long, strings.Repeat("/a", 9), " /s"} {
			k.refuses(path, base, arg, arg)
		}
		k.refuses("/", base, exist, kind)
		k.refuses("/d", base, exist, kind)
		k.refuses("/s", base, exist, ok)
		k.refuses("/d/e", base, exist, ok)
		k.refuses("/q", base, ok, none)
		k.refuses("/d/q", base, ok, none)
		k.refuses("/q/r", base, none, none)
		k.refuses("/d/q/r", base, none, none)
		k.refuses("/s/r", base, kind, kind)
		k.refuses("/d/e/r", base, kind, kind)
	}
}

// TestMakeThere: a second Make leaves what the first one made.
func TestMakeThere(t *testing.T) {
	k := made(t, 400, 20)
	s, p := k.full("/s")
	k.refuses("/s", 5, exist, ok)
	k.refuses("/s", 300, exist, ok)
	k.is("P14.1", s, "/s", p)
	k.is("P14.1", k.opens("/s", 5), "/s", p)
}

// TestNoRoom: Make where no inode, or no block for the name, is free.
func TestNoRoom(t *testing.T) {
	k := made(t, 400, 3)
	k.makes("/a", 0)
	k.makes("/b", 0)
	k.refuses("/c", 0, full, none)
	k = made(t, 300, 40)
	for i := range 8 { // one block holds eight names
		k.makes(fmt.Sprint("/s", i), i)
	}
	free, _ := k.f.Free()
	k.do(k.f.Truncate("/s0", (free-1)*512))
	k.refuses("/new", 0, full, none)
}

// TestNoFileSystem: nothing can be made or opened on one that is nil or zero.
func TestNoFileSystem(t *testing.T) {
	for _, f := range []*fs.FS{nil, {}} {
		for _, path := range []string{"/s", "/", "", "/a/b"} {
			for _, base := range []int{0, 5, last} {
				if s, e := segment.Make(f, path, base); s != nil || e != off {
					t.Errorf("P14.1: Make on no file system = %v %d, want ErrOff", s, e)
				}
				if s, e := segment.Open(f, path, base); s != nil || e != off {
					t.Errorf("P14.1: Open on no file system = %v %d, want ErrOff", s, e)
				}
			}
		}
	}
}

// TestNoSegment: a nil and a zero one at each call.
func TestNoSegment(t *testing.T) {
	var no *segment.Segment
	for _, s := range []*segment.Segment{no, {}} {
		for _, b := range []api.Batch{timed(0, 1, 1), timed(5, 2, 1, 2), timed(0, 0), {}, timed(-1, 1, 1)} {
			if e := s.Append(b); e != off {
				t.Errorf("P14.4: Append(%s) = %d, want ErrOff", short(b), e)
			}
		}
		if got := [4]int{s.Base(), s.Next(), s.Size(), s.Last()}; got != [4]int{0, 0, 0, -1} {
			t.Errorf("P14.4: Base, Next, Size and Last are %v", got)
		}
		for _, v := range []int{least, -1, 0, 1, 9, last, most} {
			for _, max := range []int{least, -1, 0, 1, 6000, most} {
				if l := s.Read(v, max); len(l) != 0 {
					t.Errorf("P14.4: Read(%d, %d) = %v", v, max, shorts(l))
				}
			}
			if at, found := s.At(v); at != 0 || found {
				t.Errorf("P14.4: At(%d) = %d %v", v, at, found)
			}
		}
		if l := s.All(); len(l) != 0 {
			t.Errorf("P14.4: All() = %v", shorts(l))
		}
	}
}

// TestMakePowerGone: what is refused for power is done wholly or not at all.
func TestMakePowerGone(t *testing.T) {
	for cut := 0; ; cut++ {
		k := made(t, 400, 20)
		k.full("/s")
		k.d.Cut(cut)
		s, e := segment.Make(k.f, "/new", 9)
		if e == ok {
			break
		}
		if s != nil || e != off {
			t.Fatalf("P14.1: Make cut at op %d = %v %d, want ErrOff", cut, s, e)
		}
		again := mounted(t, k.d.Crash([]int{1, cut}))
		if _, e := again.f.Stat("/new"); e == ok {
			again.is("P14.1", again.opens("/new", 9), "/new", plain{base: 9})
		} else {
			again.is("P14.1", again.makes("/new", 9), "/new", plain{base: 9})
		}
	}
}
