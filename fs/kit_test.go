package fs_test

import (
	"bytes"
	"fmt"
	"math"
	"slices"
	"strings"
	"testing"

	"bollard/api"
	"bollard/device"
	"bollard/fs"
)

// Short names of errors, for rows of calls.
const (
	ok    = api.OK
	arg   = api.ErrArg
	big   = api.ErrBig
	full  = api.ErrFull
	none  = api.ErrNone
	exist = api.ErrExist
	kind  = api.ErrKind
	busy  = api.ErrBusy
	state = api.ErrState
	off   = api.ErrOff
	bad   = api.ErrBad
)

// kit is a file system and the device under it.
type kit struct {
	t *testing.T
	d *device.Device
	f *fs.FS
}

// made is a new, empty one.
func made(t *testing.T, n, inodes int) *kit {
	t.Helper()
	d, e := device.New(n)
	if e != ok {
		t.Fatalf("device.New(%d) = %d", n, e)
	}
	if e := fs.Mkfs(d, inodes); e != ok {
		t.Fatalf("P10.1: Mkfs of %d blocks and %d inodes = %d", n, inodes, e)
	}
	return mounted(t, d)
}

// mounted is the file system of a device.
func mounted(t *testing.T, d *device.Device) *kit {
	t.Helper()
	f, e := fs.Mount(d)
	if e != ok || f == nil {
		t.Fatalf("P10.1: Mount = %v %d", f, e)
	}
	return &kit{t, d, f}
}

// fork is the same file system on a device of its own.
func (k *kit) fork() *kit {
	k.t.Helper()
	return mounted(k.t, k.d.Copy())
}

// call is one that changes something, told by its name and arguments.
type call struct {
	name, path, to string
	n              int
	b              []byte
}

func mkdir(path string) call                   { return call{name: "Mkdir", path: path} }
func create(path string) call                  { return call{name: "Create", path: path} }
func remove(path string) call                  { return call{name: "Remove", path: path} }
func rename(from, to string) call              { return call{name: "Rename", path: from, to: to} }
func write(path string, at int, b []byte) call { return call{name: "Write", path: path, n: at, b: b} }
func app(path string, b []byte) call           { return call{name: "Append", path: path, b: b} }
func truncate(path string, size int) call      { return call{name: "Truncate", path: path, n: size} }
func begin() call                              { return call{name: "Begin"} }
func commit() call                             { return call{name: "Commit"} }
func abort() call                              { return call{name: "Abort"} }

func (c call) String() string {
	return fmt.Sprintf("%s(%q, %q, %d, %d bytes)", c.name, c.path, c.to, c.n, len(c.b))
}

// on does a call.
func (c call) on(f *fs.FS) api.Errno {
	switch c.name {
	case "Mkdir":
		return f.Mkdir(c.path)
	case "Create":
		return f.Create(c.path)
	case "Remove":
		return f.Remove(c.path)
	case "Rename":
		return f.Rename(c.path, c.to)
	case "Write":
		return f.Write(c.path, c.n, c.b)
	case "Append":
		return f.Append(c.path, c.b)
	case "Truncate":
		return f.Truncate(c.path, c.n)
	case "Begin":
		return f.Begin()
	case "Commit":
		return f.Commit()
	case "Abort":
		return f.Abort()
	}
	panic(c.name)
}

// must does a call, which must answer that.
func (k *kit) must(promise string, c call, want api.Errno) {
	k.t.Helper()
	if e := c.on(k.f); e != want {
		k.t.Fatalf("%s: %v = %d, want %d", promise, c, e, want)
	}
}

// do does calls that must be OK.
func (k *kit) do(l ...call) {
	k.t.Helper()
	for _, c := range l {
		k.must("P10.2", c, ok)
	}
}

// refuse is a call that must be refused, and with it nothing happens.
func (k *kit) refuse(promise string, c call, want api.Errno) {
	k.t.Helper()
	was, ops := show(k.f), k.d.Ops()
	k.must(promise, c, want)
	if now := show(k.f); now != was {
		k.t.Fatalf("%s: %v = %d, but it changed something:\n%s\nwas\n%s", promise, c, want, now, was)
	}
	if k.d.Ops() != ops {
		k.t.Fatalf("%s: %v = %d, but it wrote", promise, c, want)
	}
}

// free must be that.
func (k *kit) free(promise string, blocks, inodes int) {
	k.t.Helper()
	if b, i := k.f.Free(); b != blocks || i != inodes {
		k.t.Fatalf("%s: Free = %d %d, want %d %d", promise, b, i, blocks, inodes)
	}
}

// stat must be that.
func (k *kit) stat(promise, path string, kind, size int) {
	k.t.Helper()
	if s, e := k.f.Stat(path); e != ok || s != (api.Stat{Kind: kind, Size: size}) {
		k.t.Fatalf("%s: Stat(%q) = %v %d, want {%d %d} 0", promise, path, s, e, kind, size)
	}
}

// none must be refused by all three that look.
func (k *kit) none(promise, path string, read, stat, list api.Errno) {
	k.t.Helper()
	if b, e := k.f.Read(path, 0, 9); e != read || len(b) != 0 {
		k.t.Fatalf("%s: Read(%q) = %v %d, want nothing and %d", promise, path, b, e, read)
	}
	if s, e := k.f.Stat(path); e != stat || e != ok && s != (api.Stat{}) {
		k.t.Fatalf("%s: Stat(%q) = %v %d, want %d", promise, path, s, e, stat)
	}
	if l, e := k.f.List(path); e != list || e != ok && len(l) != 0 {
		k.t.Fatalf("%s: List(%q) = %v %d, want %d", promise, path, l, e, list)
	}
}

// holds must be a file's bytes.
func (k *kit) holds(promise, path string, want []byte) {
	k.t.Helper()
	if b, e := k.f.Read(path, 0, math.MaxInt); e != ok || !bytes.Equal(b, want) {
		k.t.Fatalf("%s: Read(%q) = %d bytes %d, want %d others", promise, path, len(b), e, len(want))
	}
	k.stat(promise, path, 1, len(want))
}

// lists must be a directory's names.
func (k *kit) lists(promise, path string, want ...string) {
	k.t.Helper()
	if l, e := k.f.List(path); e != ok || !slices.Equal(l, want) {
		k.t.Fatalf("%s: List(%q) = %q %d, want %q", promise, path, l, e, want)
	}
}

// is must be all of the tree, as show tells it.
func (k *kit) is(promise, want string) {
	k.t.Helper()
	if got := show(k.f); got != want {
		k.t.Fatalf("%s: the file system is\n%s\nwant\n%s", promise, got, want)
	}
}

// show is all that a file system tells: what is free, and each path with its kind, size and bytes.
func show(f *fs.FS) string {
	blocks, inodes := f.Free()
	return fmt.Sprintf("free %d %d\n", blocks, inodes) + showAt(f, "/")
}

func showAt(f *fs.FS, path string) string {
	s, e := f.Stat(path)
	text := fmt.Sprintf("%s %d %d %d", path, s.Kind, s.Size, e)
	if s.Kind == 1 {
		b, e := f.Read(path, 0, math.MaxInt)
		return text + fmt.Sprintf(" %s %d\n", digest(b), e)
	}
	l, e := f.List(path)
	text += fmt.Sprintf(" %q %d\n", l, e)
	if strings.Count(path, "/") == api.MaxDepth {
		return text
	}
	for _, name := range l {
		text += showAt(f, strings.TrimSuffix(path, "/")+"/"+name)
	}
	return text
}

// digest is bytes as a short text.
func digest(b []byte) string {
	sum := uint64(14695981039346656037)
	for _, c := range b {
		sum = (sum ^ uint64(c)) * 1099511628211
	}
	return fmt.Sprintf("%d:%x", len(b), sum)
}

// fill is so many bytes, which differ from place to place.
func fill(seed, n int) []byte {
	b := make([]byte, n)
	for i := range b {
		b[i] = byte(seed + i + i>>8)
	}
	return b
}

// dice are numbers without a pattern, the same ones at each run.
type dice uint64

func (x *dice) below(n int) int {
	*x = *x*6364136223846793005 + 1442695040888963407
	return int(uint64(*x) >> 33 % uint64(n))
}
