package files_test

import (
	"bytes"
	"fmt"
	"math"
	"strings"
	"testing"

	"bollard/api"
	"bollard/device"
	"bollard/files"
	"bollard/fs"
)

// Short names of errors, for rows of calls.
const (
	ok    = api.OK
	arg   = api.ErrArg
	big   = api.ErrBig
	full  = api.ErrFull
	none  = api.ErrNone
	kind  = api.ErrKind
	off   = api.ErrOff
	least = math.MinInt
	most  = math.MaxInt
)

// kit is open files, the file system and the device under them.
type kit struct {
	t *testing.T
	d *device.Device
	f *fs.FS
	x *files.Table
}

// made is a table without open files on a new, empty file system.
func made(t *testing.T, blocks, inodes int) *kit {
	t.Helper()
	d, e := device.New(blocks)
	if e != ok {
		t.Fatalf("device.New(%d) = %d", blocks, e)
	}
	if e := fs.Mkfs(d, inodes); e != ok {
		t.Fatalf("P10.1: Mkfs of %d blocks and %d inodes = %d", blocks, inodes, e)
	}
	return remount(t, d)
}

// remount is a table without open files on what a device has.
func remount(t *testing.T, d *device.Device) *kit {
	t.Helper()
	f, e := fs.Mount(d)
	if e != ok {
		t.Fatalf("P10.1: Mount = %d", e)
	}
	return &kit{t, d, f, files.New(f)}
}

// opened is a table with /d/a open as 0, at the place 2 of six bytes.
func opened(t *testing.T) *kit {
	t.Helper()
	k := made(t, 400, 60)
	k.do(k.f.Mkdir("/d"))
	k.opens("P11.1", "/d/a", true, 0, ok)
	k.writes("P11.2", 0, "abcdef", ok)
	k.seeks("P11.2", 0, 2, ok)
	return k
}

// do are calls of the file system itself, which must be OK.
func (k *kit) do(l ...api.Errno) {
	k.t.Helper()
	for i, e := range l {
		if e != ok {
			k.t.Fatalf("call %d of the file system = %d", i, e)
		}
	}
}

// opens must be what Open answers.
func (k *kit) opens(promise, path string, make bool, fd int, want api.Errno) {
	k.t.Helper()
	if n, e := k.x.Open(path, make); n != fd || e != want {
		k.t.Fatalf("%s: Open(%q, %v) = %d %d, want %d %d", promise, path, make, n, e, fd, want)
	}
}

// refuses must be the error of an Open, which changes nothing.
func (k *kit) refuses(promise, path string, make bool, want api.Errno) {
	k.t.Helper()
	was, ops := show(k.f), k.d.Ops()
	k.opens(promise, path, make, 0, want)
	if now := show(k.f); now != was || k.d.Ops() != ops {
		k.t.Fatalf("%s: Open(%q, %v) = %d, but it changed something:\n%s\nwas\n%s", promise, path, make, want, now, was)
	}
}

// closes must be what Close answers.
func (k *kit) closes(promise string, fd int, want api.Errno) {
	k.t.Helper()
	if e := k.x.Close(fd); e != want {
		k.t.Fatalf("%s: Close(%d) = %d, want %d", promise, fd, e, want)
	}
}

// reads must be what Read answers.
func (k *kit) reads(promise string, fd, n int, text string, want api.Errno) {
	k.t.Helper()
	if b, e := k.x.Read(fd, n); string(b) != text || e != want {
		k.t.Fatalf("%s: Read(%d, %d) = %q %d, want %q %d", promise, fd, n, b, e, text, want)
	}
}

// writes must be what Write answers.
func (k *kit) writes(promise string, fd int, text string, want api.Errno) {
	k.t.Helper()
	if e := k.x.Write(fd, []byte(text)); e != want {
		k.t.Fatalf("%s: Write(%d, %d bytes) = %d, want %d", promise, fd, len(text), e, want)
	}
}

// seeks must be what Seek answers.
func (k *kit) seeks(promise string, fd, at int, want api.Errno) {
	k.t.Helper()
	if e := k.x.Seek(fd, at); e != want {
		k.t.Fatalf("%s: Seek(%d, %d) = %d, want %d", promise, fd, at, e, want)
	}
}

// preads must be what Pread answers.
func (k *kit) preads(promise string, fd, at, n int, text string, want api.Errno) {
	k.t.Helper()
	if b, e := k.x.Pread(fd, at, n); string(b) != text || e != want {
		k.t.Fatalf("%s: Pread(%d, %d, %d) = %q %d, want %q %d", promise, fd, at, n, b, e, text, want)
	}
}

// pwrites must be what Pwrite answers.
func (k *kit) pwrites(promise string, fd, at int, text string, want api.Errno) {
	k.t.Helper()
	if e := k.x.Pwrite(fd, at, []byte(text)); e != want {
		k.t.Fatalf("%s: Pwrite(%d, %d, %d bytes) = %d, want %d", promise, fd, at, len(text), e, want)
	}
}

// appends must be what Append answers.
func (k *kit) appends(promise string, fd int, text string, want api.Errno) {
	k.t.Helper()
	if e := k.x.Append(fd, []byte(text)); e != want {
		k.t.Fatalf("%s: Append(%d, %d bytes) = %d, want %d", promise, fd, len(text), e, want)
	}
}

// tells must be what Tell answers.
func (k *kit) tells(promise string, fd, at int, want api.Errno) {
	k.t.Helper()
	if n, e := k.x.Tell(fd); n != at || e != want {
		k.t.Fatalf("%s: Tell(%d) = %d %d, want %d %d", promise, fd, n, e, at, want)
	}
}

// holds must be all of a path's bytes.
func (k *kit) holds(promise, path, text string) {
	k.t.Helper()
	if b, e := k.f.Read(path, 0, most); string(b) != text || e != ok {
		k.t.Fatalf("%s: %s has %d bytes (%d), want %d others", promise, path, len(b), e, len(text))
	}
}

// fails must be the error of all calls of a number that lead to its path; with it no place changes.
func (k *kit) fails(promise string, fd, at int, read, change api.Errno) {
	k.t.Helper()
	was := show(k.f)
	k.tells(promise, fd, at, ok)
	k.reads(promise, fd, 1, "", read)
	k.preads(promise, fd, 0, 1, "", read)
	k.writes(promise, fd, "lost", change)
	k.pwrites(promise, fd, 0, "lost", change)
	k.appends(promise, fd, "lost", change)
	k.tells("P11.3", fd, at, ok)
	if now := show(k.f); now != was {
		k.t.Fatalf("%s: calls that were refused changed something:\n%s\nwas\n%s", promise, now, was)
	}
}

// shut must be a number that is not open: all calls of it are refused, with nothing beside the error.
func (k *kit) shut(promise string, fd int) {
	k.t.Helper()
	k.closes(promise, fd, arg)
	k.reads(promise, fd, 1, "", arg)
	k.writes(promise, fd, "x", arg)
	k.writes(promise, fd, "", arg)
	k.seeks(promise, fd, 0, arg)
	k.preads(promise, fd, 0, 1, "", arg)
	k.pwrites(promise, fd, 0, "x", arg)
	k.appends(promise, fd, "x", arg)
	k.tells(promise, fd, 0, arg)
}

// show is all that a file system tells: what is free, and each path with its kind, size and bytes.
func show(f *fs.FS) string {
	blocks, inodes := f.Free()
	return fmt.Sprintf("free %d %d\n", blocks, inodes) + showAt(f, "/")
}

func showAt(f *fs.FS, path string) string {
	s, e := f.Stat(path)
	text := fmt.Sprintf("%s %d %d %d", path, s.Kind, s.Size, e)
	if s.Kind == 1 {
		b, e := f.Read(path, 0, most)
		return text + fmt.Sprintf(" %q %d\n", b, e)
	}
	l, e := f.List(path)
	text += fmt.Sprintf(" %q %d\n", l, e)
	for _, name := range l {
		text += showAt(f, strings.TrimSuffix(path, "/")+"/"+name)
	}
	return text
}

// long is a text of so many bytes, which differ from place to place.
func long(n int) string {
	var b bytes.Buffer
	for i := range n {
		b.WriteByte(byte(i + i>>8))
	}
	return b.String()
}
