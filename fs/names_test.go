package fs_test

import (
	"strings"
	"testing"

	"bollard/api"
)

// noPaths are texts that are none.
func noPaths() []string {
	return []string{
		"", "a", "a/b", "x", "./x", "//", "///", "//x", "/x/", "/d//y", "/d/", "/d/y/", " /x",
		"/.", "/..", "/./x", "/../x", "/d/.", "/d/..", "/d/./y", "/d/../x", "/a\x00", "/\x00", "/d/\x00/y",
		"/" + strings.Repeat("n", 51), "/d/" + strings.Repeat("n", 51) + "/y", strings.Repeat("/d", 9), "/d/e/f/4/5/6/7/8/9", strings.Repeat("/d", 8) + "/",
		strings.Repeat("/d", 100000), strings.Repeat("/", 100000), "/" + strings.Repeat("x", 100000),
	}
}

// TestNoPaths: ErrArg of all calls, ahead of all else.
func TestNoPaths(t *testing.T) {
	k, _ := grown(t, 400, 20)
	for _, path := range noPaths() {
		for _, c := range []call{
			mkdir(path), create(path), remove(path), rename(path, "/n"), rename("/x", path), rename(path, path), rename("/q", path), rename(path, "/q/r"),
			write(path, 0, nil), write(path, -1, nil), app(path, nil), truncate(path, 0), truncate(path, -1),
		} {
			k.refuse("P10.3", c, arg)
		}
		k.none("P10.4", path, arg, arg, arg)
	}
}

// TestPaths: names of any bytes that may be, of 1 and of 50 of them; eight of them.
func TestPaths(t *testing.T) {
	k := made(t, 600, 40)
	for _, name := range []string{"a", "...", ".a", " ", "\xff\xfe", "a b", "\n", "é", strings.Repeat("n", 50), "a.", "\\", "*"} {
		k.do(mkdir("/"+name), create("/"+name+"/"+name), app("/"+name+"/"+name, []byte(name)))
		k.holds("P10.3", "/"+name+"/"+name, []byte(name))
		k.lists("P10.3", "/"+name, name)
		k.do(remove("/"+name+"/"+name), remove("/"+name))
	}
	path := ""
	for range 7 {
		path += "/d"
		k.do(mkdir(path))
	}
	k.do(create(path+"/x"), app(path+"/x", fill(1, 10)), mkdir(path+"/y"))
	k.holds("P10.3", path+"/x", fill(1, 10))
	k.lists("P10.3", path, "x", "y")
	k.lists("P10.3", path+"/y")
	k.refuse("P10.3", create(path+"/y/z"), arg)
	k.refuse("P10.3", rename(path+"/x", path+"/y/z"), arg)
	k.do(rename(path+"/x", path+"/z"), rename(path+"/z", "/z"), remove(path+"/y"))
	k.holds("P10.3", "/z", fill(1, 10))
}

// TestTheRoot in every call.
func TestTheRoot(t *testing.T) {
	k, _ := grown(t, 400, 20)
	for _, c := range []struct {
		c    call
		want api.Errno
	}{
		{mkdir("/"), exist}, {create("/"), exist}, {remove("/"), arg}, {rename("/", "/n"), arg}, {rename("/x", "/"), arg}, {rename("/", "/"), arg}, {rename("/q", "/"), arg}, {rename("/", "/d/n"), arg},
		{write("/", 0, nil), kind}, {write("/", -1, nil), kind}, {app("/", nil), kind}, {truncate("/", 0), kind}, {truncate("/", -1), kind},
	} {
		k.refuse("P10.3", c.c, c.want)
	}
	k.none("P10.4", "/", kind, ok, ok)
	k.stat("P10.4", "/", 2, 5*64)
	k.lists("P10.4", "/", "d", "empty", "empty file", "x")
	bare := made(t, 400, 20)
	bare.refuse("P10.3", remove("/"), arg)
	bare.stat("P10.5", "/", 2, 0)
	bare.lists("P10.4", "/")
}

// TestWhatLeadsThere: paths that lead through a file, through nothing, and to either.
func TestWhatLeadsThere(t *testing.T) {
	k, _ := grown(t, 400, 20)
	for _, c := range []struct {
		path                 string
		make, remove, change api.Errno
	}{
		{"/q/r", none, none, none}, {"/q/r/s", none, none, none}, {"/d/q/r", none, none, none}, {"/d/e/f/q/r", none, none, none},
		{"/x/r", kind, kind, kind}, {"/x/r/s", kind, kind, kind}, {"/d/y/r", kind, kind, kind}, {"/d/y/r/s/t", kind, kind, kind}, {"/x/x/x/x/x/x/x/x", kind, kind, kind},
		{"/x", exist, ok, ok}, {"/d/y", exist, ok, ok}, {"/d", exist, busy, kind}, {"/d/e", exist, busy, kind}, {"/empty", exist, ok, kind}, {"/d/e/f", exist, ok, kind},
		{"/q", ok, none, none}, {"/d/q", ok, none, none}, {"/d/e/f/q", ok, none, none},
	} {
		for name, want := range map[string]api.Errno{"Mkdir": c.make, "Create": c.make, "Remove": c.remove, "Write": c.change, "Append": c.change, "Truncate": c.change} {
			one := call{name: name, path: c.path}
			if want != ok {
				k.refuse("P10.3", one, want)
				continue
			}
			k.do(begin(), one, abort())
		}
	}
}

// TestMake: an empty directory, an empty file; each is found at once and later.
func TestMake(t *testing.T) {
	k := made(t, 400, 20)
	k.do(mkdir("/a"), create("/b"), mkdir("/a/c"), create("/a/d"))
	for range 2 {
		k.stat("P10.3", "/a", 2, 128)
		k.holds("P10.3", "/b", nil)
		k.stat("P10.3", "/a/c", 2, 0)
		k.lists("P10.3", "/a/c")
		k.holds("P10.3", "/a/d", nil)
		k.lists("P10.3", "/", "a", "b")
		k.lists("P10.3", "/a", "c", "d")
		k = mounted(t, k.d)
	}
}

// TestMadeAnew: what is made where something was is empty.
func TestMadeAnew(t *testing.T) {
	k := made(t, 400, 20)
	k.do(create("/a"), app("/a", fill(1, 3000)), remove("/a"), create("/a"))
	k.holds("P10.3", "/a", nil)
	k.do(truncate("/a", 3000))
	k.holds("P10.3", "/a", make([]byte, 3000))
	k.do(remove("/a"), mkdir("/a"), create("/a/x"), remove("/a/x"), remove("/a"), mkdir("/a"))
	k.stat("P10.3", "/a", 2, 0)
	k.none("P10.3", "/a/x", none, none, none)
}

// TestRemove: it is gone, and so is all that it had; what a directory's name led to is not found there any more.
func TestRemove(t *testing.T) {
	k, _ := grown(t, 400, 20)
	k.refuse("P10.3", remove("/d/e"), busy)
	k.do(remove("/d/e/f"), remove("/d/e"))
	k.refuse("P10.3", remove("/d"), busy)
	k.refuse("P10.3", remove("/d/e"), none)
	k.refuse("P10.3", remove("/d/e/f"), none)
	k.do(remove("/d/y"), remove("/d"))
	k.refuse("P10.3", remove("/d/y"), none)
	k.none("P10.3", "/d", none, none, none)
	k.do(create("/d"))
	k.none("P10.3", "/d/y", kind, kind, kind)
	k.do(remove("/d"), remove("/x"), remove("/empty"), remove("/empty file"))
	k.lists("P10.3", "/")
	k.stat("P10.5", "/", 2, 5*64)
	k.free("P10.5", 148, 19)
}

// TestBusyWithHoles: a directory whose last name alone is left, in whichever slot, is busy; one all of whose slots are free is not.
func TestBusyWithHoles(t *testing.T) {
	for left := range 10 {
		k := made(t, 400, 20)
		k.do(mkdir("/d"))
		path := func(i int) string { return "/d/" + string(rune('a'+i)) }
		for i := range 10 {
			k.do(create(path(i)))
		}
		for i := range 10 {
			if i != left {
				k.do(remove(path(i)))
			}
		}
		k.refuse("P10.3", remove("/d"), busy)
		k.do(remove(path(left)))
		k.stat("P10.3", "/d", 2, 640)
		k.do(remove("/d"))
		k.free("P10.5", 148, 19)
	}
}
