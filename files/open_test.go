package files_test

import (
	"fmt"
	"slices"
	"strings"
	"testing"

	"bollard/api"
)

func TestExample(t *testing.T) {
	k := made(t, 400, 60)
	k.opens("P11.1", "/a", true, 0, ok)
	k.writes("P11.2", 0, "abc", ok)
	k.seeks("P11.2", 0, 1, ok)
	k.reads("P11.2", 0, 9, "bc", ok)
	k.closes("P11.1", 0, ok)
	k.opens("P11.1", "/a", false, 0, ok)
	k.reads("P11.1", 0, 9, "abc", ok)
}

func TestOpen(t *testing.T) {
	k := made(t, 400, 60)
	k.do(k.f.Mkdir("/d"), k.f.Create("/d/f"), k.f.Append("/d/f", []byte("there")))
	k.opens("P11.1", "/d/f", false, 0, ok)
	k.opens("P11.1", "/d/f", true, 1, ok)
	k.holds("P11.1", "/d/f", "there")
	k.opens("P11.1", "/d/new", true, 2, ok)
	k.holds("P11.1", "/d/new", "")
	for fd := range 3 {
		k.tells("P11.1", fd, 0, ok)
	}
	for _, r := range []struct {
		path string
		want api.Errno
	}{
		{"/d", kind},
		{"/", kind},
		{"", arg},
		{"d", arg},
		{"/d/", arg},
		{"//d", arg},
		{"/d/f/", arg},
		{"/d/.", arg},
		{"/d/f\x00", arg},
		{"/d/" + strings.Repeat("n", api.MaxName+1), arg},
		{"/d/" + strings.Repeat("n", api.MaxName) + "/f", none},
		{"/1/2/3/4/5/6/7/8/9", arg},
		{"/none/f", none},
		{"/d/none/f", none},
		{"/1/2/3/4/5/6/7/8", none},
		{"/d/f/g", kind},
		{"/d/f/g/h", kind},
	} {
		k.refuses("P11.1", r.path, false, r.want)
		k.refuses("P11.1", r.path, true, r.want)
	}
	k.refuses("P11.1", "/x", false, none)
	k.opens("P11.1", "/x", true, 3, ok)
}

func TestOpenMakesForGood(t *testing.T) {
	k := made(t, 400, 60)
	k.opens("P11.1", "/a", true, 0, ok)
	k.writes("P11.2", 0, "kept", ok)
	again := remount(t, k.d.Crash(nil))
	again.holds("P11.1", "/a", "kept")
	again.shut("P11.1", 0)
}

func TestOpenWithoutInodes(t *testing.T) {
	k := made(t, 400, 3)
	k.opens("P11.1", "/a", true, 0, ok)
	k.opens("P11.1", "/b", true, 1, ok)
	k.refuses("P11.1", "/c", true, full)
	k.refuses("P11.1", "/c", false, none)
	k.opens("P11.1", "/a", true, 2, ok)
	k.do(k.f.Remove("/b"))
	k.opens("P11.1", "/c", true, 3, ok)
}

func TestOpenWithoutBlocks(t *testing.T) {
	k := made(t, 300, 30)
	k.opens("P11.1", "/a", true, 0, ok)
	left, _ := k.f.Free()
	k.writes("P11.2", 0, long((left-1)*api.Block), ok)
	if blocks, _ := k.f.Free(); blocks != 0 {
		t.Fatalf("P10.5: %d blocks are free, want 0", blocks)
	}
	for i := range 7 { // eight names lie in a block of the root
		k.opens("P11.1", fmt.Sprint("/", i), true, i+1, ok)
	}
	k.refuses("P11.1", "/more", true, full)
	k.opens("P11.1", "/3", true, 8, ok)
}

func TestThirtyTwo(t *testing.T) {
	k := made(t, 400, 60)
	k.do(k.f.Create("/a"), k.f.Mkdir("/d"))
	for fd := range api.MaxFDs {
		k.opens("P11.1", "/a", fd%2 == 0, fd, ok)
	}
	for _, path := range []string{"/a", "/d", "/", "/none", "/d/new", "/none/f", "/a/f", "", "a", "/a/"} {
		k.refuses("P11.1", path, false, big)
		k.refuses("P11.1", path, true, big)
	}
	k.closes("P11.1", 31, ok)
	k.refuses("P11.1", "a", true, arg)
	k.opens("P11.1", "/d/new", true, 31, ok)
	k.refuses("P11.1", "/d/new", true, big)
}

func TestThirtyTwoAheadOfTheDead(t *testing.T) {
	k := made(t, 400, 60)
	k.do(k.f.Create("/a"))
	for fd := range api.MaxFDs {
		k.opens("P11.1", "/a", false, fd, ok)
	}
	k.d.Cut(0)
	k.writes("P11.2", 0, "x", off)
	k.opens("P11.1", "/b", true, 0, big)
	k.closes("P11.1", 5, ok)
	k.opens("P11.1", "/b", true, 0, off)
	k.opens("P11.1", "/a", true, 5, ok)
}

func TestLeastNumber(t *testing.T) {
	k := made(t, 400, 60)
	k.do(k.f.Create("/a"))
	taken := map[int]bool{}
	open := func() {
		fd := 0
		for taken[fd] {
			fd++
		}
		k.opens("P11.1", "/a", false, fd, ok)
		taken[fd] = true
	}
	shut := func(fd int) {
		k.closes("P11.1", fd, ok)
		k.shut("P11.1", fd)
		delete(taken, fd)
	}
	for range api.MaxFDs {
		open()
	}
	for _, row := range [][]int{{7}, {31, 0}, {0, 31}, {3, 2, 1}, {9, 30, 10, 8}, {31}, {0}} {
		for _, fd := range row {
			shut(fd)
		}
		for range row {
			open()
		}
		k.refuses("P11.1", "/a", false, big)
	}
	for fd := range api.MaxFDs {
		shut(fd * 13 % api.MaxFDs)
		if fd%3 == 0 {
			open()
		}
	}
	left := []int{}
	for fd := range taken {
		left = append(left, fd)
	}
	slices.Sort(left)
	for _, fd := range left {
		k.tells("P11.1", fd, 0, ok)
	}
}

func TestClose(t *testing.T) {
	k := made(t, 400, 60)
	k.opens("P11.1", "/a", true, 0, ok)
	k.opens("P11.1", "/a", true, 1, ok)
	k.writes("P11.2", 0, "abc", ok)
	k.writes("P11.2", 1, "d", ok)
	for _, fd := range []int{-1, 2, 31, 32, 33, 1 << 32, 1<<32 + 1, least, most} {
		k.shut("P11.1", fd)
	}
	k.closes("P11.1", 0, ok)
	k.shut("P11.1", 0)
	k.tells("P11.1", 1, 1, ok)
	k.holds("P11.1", "/a", "dbc")
	k.opens("P11.1", "/a", false, 0, ok)
	k.tells("P11.1", 0, 0, ok)
	k.closes("P11.1", 1, ok)
	k.closes("P11.1", 0, ok)
	k.shut("P11.1", 0)
	k.shut("P11.1", 1)
}

func TestCloseOfWhatIsGone(t *testing.T) {
	k := made(t, 400, 60)
	k.opens("P11.1", "/a", true, 0, ok)
	k.do(k.f.Remove("/a"))
	k.closes("P11.1", 0, ok)
	k.shut("P11.1", 0)
	k.refuses("P11.1", "/a", false, none)
}
