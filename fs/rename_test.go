package fs_test

import (
	"strings"
	"testing"

	"bollard/api"
)

// TestRenameRefuses: which errors, and in which order.
func TestRenameRefuses(t *testing.T) {
	k, _ := grown(t, 400, 20)
	for _, c := range []struct {
		from, to string
		want     api.Errno
	}{
		// A to behind from is ErrArg, whatever from is.
		{"/d", "/d/n", arg}, {"/d", "/d/e", arg}, {"/d", "/d/e/f/n", arg}, {"/x", "/x/n", arg}, {"/q", "/q/r", arg}, {"/q/r", "/q/r/s", arg}, {"/d/e", "/d/e/e", arg}, {"/x/y", "/x/y/z", arg},
		{"/d", "/d/q/r", arg}, {"/d", "/d/y/r", arg},
		// What begins with the same letters is not behind it.
		{"/q", "/qq", none}, {"/q", "/qq/r", none}, {"/d/q", "/d/qq", none},
		// From's errors come ahead of to's.
		{"/q", "/r", none}, {"/q", "/d", none}, {"/q", "/x/z", none}, {"/q/r", "/x/z", none}, {"/x/y", "/q/z", kind}, {"/x/y", "/n", kind}, {"/d/y/z", "/d", kind}, {"/q", "/q", none}, {"/x/y", "/x/y", kind}, {"/q/r", "/q/r", none},
		// What leads to to.
		{"/x", "/q/r", none}, {"/x", "/q/r/s", none}, {"/x", "/d/y/r", kind}, {"/x", "/d/y/r/s", kind}, {"/d", "/x/r", kind}, {"/d", "/q/r", none}, {"/d/e", "/d/y/e", kind},
		// What is there.
		{"/x", "/d", kind}, {"/x", "/empty", kind}, {"/d/y", "/d/e", kind}, {"/d", "/x", kind}, {"/d", "/empty", kind}, {"/empty", "/d", kind}, {"/empty", "/x", kind}, {"/d/e", "/d", kind}, {"/d/e/f", "/d", kind}, {"/d/y", "/d", kind}, {"/empty", "/empty file", kind},
	} {
		k.refuse("P10.3", rename(c.from, c.to), c.want)
	}
}

// TestRenameToItself: OK, and nothing happens, of files and directories.
func TestRenameToItself(t *testing.T) {
	k, _ := grown(t, 400, 20)
	for _, path := range []string{"/x", "/d", "/d/y", "/d/e", "/d/e/f", "/empty", "/empty file"} {
		k.refuse("P10.3", rename(path, path), ok)
		k.do(begin())
		k.refuse("P10.3", rename(path, path), ok)
		k.do(commit())
	}
}

// TestRename: files and directories to what is not there, within a directory and into others; what stands in them goes with them.
func TestRename(t *testing.T) {
	old, was := grown(t, 400, 20)
	for _, c := range [][2]string{
		{"/x", "/n"}, {"/x", "/d/n"}, {"/x", "/d/e/f/n"}, {"/x", "/xx"}, {"/d/y", "/y"}, {"/d/y", "/d/z"}, {"/d/y", "/empty/y"},
		{"/d", "/n"}, {"/d", "/dd"}, {"/d", "/empty/d"}, {"/d/e", "/e"}, {"/d/e", "/d/ee"}, {"/d/e/f", "/f"}, {"/d/e/f", "/d/f"}, {"/empty", "/d/e/f/g"}, {"/empty file", "/d/empty file"},
	} {
		k, p := old.fork(), was.clone()
		show(k.f) // so that names are known that lead elsewhere then
		k.must("P10.3", rename(c[0], c[1]), p.rename(c[0], c[1]))
		k.is("P10.3", p.show())
		k.none("P10.3", c[0], none, none, none)
		mounted(t, k.d).is("P10.3", p.show())
		k.must("P10.3", rename(c[1], c[0]), p.rename(c[1], c[0]))
		k.is("P10.3", p.show())
		k.none("P10.3", c[1], none, none, none)
	}
}

// TestRenameOver: a file that to was is gone, with its blocks and its inode; the directories' sizes stay.
func TestRenameOver(t *testing.T) {
	old, was := grown(t, 400, 20)
	for _, c := range []struct {
		from, to       string
		blocks, inodes int // that are given back
	}{
		{"/x", "/d/y", 15, 1}, {"/d/y", "/x", 2, 1}, {"/x", "/empty file", 0, 1}, {"/empty file", "/x", 2, 1}, {"/empty file", "/d/y", 15, 1},
	} {
		k, p := old.fork(), was.clone()
		blocks, inodes := k.f.Free()
		b, _ := k.f.Read(c.from, 0, 99999)
		root, _ := k.f.Stat("/")
		k.must("P10.3", rename(c.from, c.to), p.rename(c.from, c.to))
		k.holds("P10.3", c.to, b)
		k.none("P10.3", c.from, none, none, none)
		k.free("P10.5", blocks+c.blocks, inodes+c.inodes)
		k.stat("P10.5", "/", 2, root.Size)
		k.is("P10.3", p.show())
		mounted(t, k.d.Crash(nil)).is("P10.3", p.show())
	}
}

// TestRenameSlots: to's slot is taken ahead of from's being free; over a file it is that file's slot.
func TestRenameSlots(t *testing.T) {
	k := made(t, 400, 20)
	k.do(create("/a"), create("/b"))
	k.stat("P10.5", "/", 2, 128)
	k.do(rename("/a", "/c"))
	k.stat("P10.5", "/", 2, 192)
	k.do(rename("/b", "/d"), rename("/c", "/e"), rename("/d", "/f"))
	k.stat("P10.5", "/", 2, 192)
	k.do(rename("/e", "/f"))
	k.stat("P10.5", "/", 2, 192)
	k.lists("P10.3", "/", "f")
}

// TestRenameDeep: a directory may be moved so deep that what stands in it has no path; moved back it is there.
func TestRenameDeep(t *testing.T) {
	k := made(t, 400, 40)
	deep := strings.Repeat("/d", 7)
	for i := 2; i <= len(deep); i += 2 {
		k.do(mkdir(deep[:i]))
	}
	k.do(mkdir("/a"), mkdir("/a/b"), create("/a/b/x"), app("/a/b/x", fill(1, 9)), rename("/a", deep+"/a"))
	k.lists("P10.3", deep+"/a", "b")
	k.none("P10.3", deep+"/a/b", arg, arg, arg)
	k.refuse("P10.3", remove(deep+"/a"), busy)
	k.do(rename(deep+"/a", "/c"))
	k.holds("P10.3", "/c/b/x", fill(1, 9))
}
