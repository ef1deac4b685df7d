package catalog_test

import (
	"bytes"
	"fmt"
	"math"
	"reflect"
	"strings"
	"testing"

	"bollard/api"
	"bollard/catalog"
	"bollard/device"
	"bollard/fs"
	"bollard/part"
	"bollard/producers"
)

// Short names of errors and edges, for rows of calls.
const (
	ok    = api.OK
	arg   = api.ErrArg
	big   = api.ErrBig
	full  = api.ErrFull
	none  = api.ErrNone
	exist = api.ErrExist
	kind  = api.ErrKind
	busy  = api.ErrBusy
	off   = api.ErrOff
	bad   = api.ErrBad
	least = math.MinInt
	most  = math.MaxInt
	end   = 1 << 50 // the greatest time
	limit = 20      // so many topics there may be
)

// dice are numbers without a pattern, the same ones at each run.
type dice uint64

func (x *dice) below(n int) int {
	*x = *x*6364136223846793005 + 1442695040888963407
	return int(uint64(*x) >> 33 % uint64(n))
}

// set are settings that may be.
func set() api.Settings {
	return api.Settings{Segment: 512, Bytes: -1, Age: 7, Compact: true, Delay: 9}
}

// leastSet and mostSet are those whose fields are all as small, as great, as they may be.
func leastSet() api.Settings { return api.Settings{Segment: 512, Bytes: -1, Age: -1} }
func mostSet() api.Settings {
	return api.Settings{Segment: 8192, Bytes: 1 << 40, Age: end, Compact: true, Delay: end}
}

// kit is a file system and the device under it.
type kit struct {
	t *testing.T
	d *device.Device
	f *fs.FS
}

// made is a new, empty file system.
func made(t *testing.T, blocks, inodes int) *kit {
	t.Helper()
	d, e := device.New(blocks)
	if e != ok {
		t.Fatalf("device.New(%d) = %d", blocks, e)
	}
	if e := fs.Mkfs(d, inodes); e != ok {
		t.Fatalf("P10.1: Mkfs of %d blocks and %d inodes = %d", blocks, inodes, e)
	}
	return mounted(t, d)
}

// mounted is the file system that a device has.
func mounted(t *testing.T, d *device.Device) *kit {
	t.Helper()
	f, e := fs.Mount(d)
	if e != ok {
		t.Fatalf("P10.1: Mount = %d", e)
	}
	return &kit{t, d, f}
}

// fork is a file system of its own with the same in it.
func (k *kit) fork() *kit {
	k.t.Helper()
	return mounted(k.t, k.d.Crash(nil))
}

// do are calls that must be OK.
func (k *kit) do(l ...api.Errno) {
	k.t.Helper()
	k.fails(ok, l...)
}

// fails are calls that must answer that error.
func (k *kit) fails(want api.Errno, l ...api.Errno) {
	k.t.Helper()
	for i, e := range l {
		if e != want {
			k.t.Fatalf("call %d of a row = %d, want %d", i, e, want)
		}
	}
}

// makes makes a catalog, and opens it.
func (k *kit) makes(dir string) (*catalog.Catalog, *plain) {
	k.t.Helper()
	if e := catalog.Make(k.f, dir); e != ok {
		k.t.Fatalf("P17.1: Make(%q) = %d", dir, e)
	}
	return k.opens(dir), newPlain(dir)
}

// opens is what Open reads.
func (k *kit) opens(dir string) *catalog.Catalog {
	k.t.Helper()
	c, e := catalog.Open(k.f, dir)
	if e != ok || c == nil {
		k.t.Fatalf("P17.1: Open(%q) = %v %d", dir, c, e)
	}
	return c
}

// has is a catalog at /c of n topics of one part: a0, a1 and on.
func (k *kit) has(n int) (*catalog.Catalog, *plain) {
	k.t.Helper()
	c, q := k.makes("/c")
	for i := range n {
		k.creates("P17.2", c, q, fmt.Sprint("a", i), 1, set())
	}
	return c, q
}

// creates holds Create against the plain one.
func (k *kit) creates(promise string, c *catalog.Catalog, q *plain, name string, parts int, s api.Settings) {
	k.t.Helper()
	want, e := q.create(name, parts, s)
	if got, code := c.Create(name, parts, s); got != want || code != e {
		k.t.Fatalf("%s: Create(%.60q, %d, %v) = %v %d, want %v %d", promise, name, parts, s, got, code, want, e)
	}
}

// deletes holds Delete against the plain one.
func (k *kit) deletes(promise string, c *catalog.Catalog, q *plain, name string) {
	k.t.Helper()
	want := q.delete(name)
	if e := c.Delete(name); e != want {
		k.t.Fatalf("%s: Delete(%.60q) = %d, want %d", promise, name, e, want)
	}
}

// sweeps holds Sweep against the plain one, and tells what that told.
func (k *kit) sweeps(promise string, c *catalog.Catalog, q *plain) bool {
	k.t.Helper()
	want := q.sweep()
	if gone, e := c.Sweep(); gone != want || e != ok {
		k.t.Fatalf("%s: Sweep() = %v %d, want %v", promise, gone, e, want)
	}
	return want
}

// sweepsAll sweeps until there is nothing left, and tells how often.
func (k *kit) sweepsAll(promise string, c *catalog.Catalog, q *plain) (n int) {
	k.t.Helper()
	for k.sweeps(promise, c, q) {
		n++
		k.is(promise, c, q)
	}
	return n
}

// refuses must be an error of Create, with which nothing changes.
func (k *kit) refuses(promise string, c *catalog.Catalog, q *plain, name string, parts int, s api.Settings, want api.Errno) {
	k.t.Helper()
	k.still(promise, "a Create that is refused", func() {
		k.t.Helper()
		if got, e := c.Create(name, parts, s); got != (catalog.Topic{}) || e != want {
			k.t.Fatalf("%s: Create(%.60q, %d, %v) = %v %d, want %d", promise, name, parts, s, got, e, want)
		}
	})
	k.is(promise, c, q)
}

// is must be all that a catalog tells, and the directories that it has.
func (k *kit) is(promise string, c *catalog.Catalog, q *plain) {
	k.t.Helper()
	k.tells(promise, c, q)
	if got, want := k.folders(q.dir), q.folders; !reflect.DeepEqual(got, want) {
		k.t.Fatalf("%s: the directories are %q, want %q", promise, got, want)
	}
}

// tells must be all that a catalog tells.
func (k *kit) tells(promise string, c *catalog.Catalog, q *plain) {
	k.t.Helper()
	want := q.list()
	if l := c.List(); len(l) != len(want) || len(want) > 0 && !reflect.DeepEqual(l, want) {
		k.t.Fatalf("%s: List() = %v, want %v", promise, l, want)
	}
	for _, x := range want {
		if y, found := c.Find(x.Name); y != x || !found {
			k.t.Fatalf("%s: Find(%q) = %v %v, want %v", promise, x.Name, y, found, x)
		}
		for n := range x.Parts {
			if at := c.Dir(x, n); at != fmt.Sprint(q.dir, "/t", x.ID, "-", n) {
				k.t.Fatalf("%s: Dir(%v, %d) = %q", promise, x, n, at)
			}
		}
	}
	for _, name := range wrongNames() {
		if y, found := c.Find(name); y != (catalog.Topic{}) || found {
			k.t.Fatalf("%s: Find(%.60q) = %v %v", promise, name, y, found)
		}
	}
}

// again must be told by the catalog that is Opened anew, here, and behind a crash; each partition of a topic may be opened.
func (k *kit) again(promise string, q *plain) {
	k.t.Helper()
	k.still(promise, "Open", func() {
		k.t.Helper()
		k.is(promise, k.opens(q.dir), q)
	})
	fork := k.fork()
	fork.is(promise, fork.opens(q.dir), q)
	for _, x := range q.list() {
		for n := range x.Parts {
			fork.isEmpty(promise, fork.opens(q.dir).Dir(x, n), x.Set)
		}
	}
}

// isEmpty must be the directory of a part to which nothing was appended.
func (k *kit) isEmpty(promise, at string, s api.Settings) {
	k.t.Helper()
	p, e := part.Open(k.f, at, s)
	if e != ok || p.Start() != 0 || p.Next() != 0 || len(p.Segments()) != 1 {
		k.t.Fatalf("%s: the partition %q is %d %d %v %d", promise, at, p.Start(), p.Next(), p.Segments(), e)
	}
	known, e := producers.Open(k.f, at+"/producers")
	if e != ok || known.Len() != 0 {
		k.t.Fatalf("%s: the producers of %q are %d %d", promise, at, known.Len(), e)
	}
}

// goesOn: a catalog is one like any other.
func (k *kit) goesOn(promise string, q *plain) {
	k.t.Helper()
	c := k.opens(q.dir)
	for _, x := range q.list() {
		k.deletes(promise, c, q, x.Name)
		break
	}
	k.creates(promise, c, q, "goes on", 2, mostSet())
	k.is(promise, c, q)
	k.sweepsAll(promise, c, q)
	k.creates(promise, c, q, "goes on", 2, leastSet())
	k.again(promise, q)
}

// folders are the directories of a catalog, each with the names in it.
func (k *kit) folders(dir string) map[string][]string {
	k.t.Helper()
	names, e := k.f.List(dir)
	if e != ok {
		k.t.Fatalf("List(%q) = %d", dir, e)
	}
	m := map[string][]string{}
	for _, name := range names {
		if l, e := k.f.List(dir + "/" + name); e == ok {
			m[name] = append([]string{}, l...)
		}
	}
	return m
}

// still does what must change nothing: neither the file system nor the device.
func (k *kit) still(promise, what string, do func()) {
	k.t.Helper()
	was, ops := show(k.f), k.d.Ops()
	do()
	if now := show(k.f); now != was || k.d.Ops() != ops {
		k.t.Fatalf("%s: %s changed something, by %d ops:\n%s\nwas\n%s", promise, what, k.d.Ops()-ops, now, was)
	}
}

// show is all that a file system tells: what is free, and each path with its kind, size and bytes.
func show(f *fs.FS) string {
	blocks, inodes := f.Free()
	return fmt.Sprintf("free %d %d\n", blocks, inodes) + showAt(f, "/")
}

func showAt(f *fs.FS, path string) string {
	var text strings.Builder
	showInto(&text, f, path)
	return text.String()
}

func showInto(text *strings.Builder, f *fs.FS, path string) {
	s, e := f.Stat(path)
	fmt.Fprintf(text, "%s %d %d %d", path, s.Kind, s.Size, e)
	if s.Kind == 1 {
		b, e := f.Read(path, 0, most)
		fmt.Fprintf(text, " %x %d\n", bytes.TrimRight(b, "\x00"), e)
		return
	}
	l, e := f.List(path)
	fmt.Fprintf(text, " %q %d\n", l, e)
	for _, name := range l {
		showInto(text, f, strings.TrimSuffix(path, "/")+"/"+name)
	}
}

// wrongNames are names that may not be, some of which begin or end as one that is there.
func wrongNames() []string {
	return []string{"", ".", "..", "/", "a/b", "/a", "a/", "a\x00", "a0\x00", "\x00", "a0\x00b", strings.Repeat("n", 51), strings.Repeat("n", 52), strings.Repeat("n", 200000), strings.Repeat("\x00", 50)}
}

// picks are what crashes choose: nothing, all, and some of what is pending.
func picks() [][]int {
	every := make([]int, 300)
	for i := range every {
		every[i] = 1
	}
	return [][]int{nil, every, {1}, {0, 1}, {0, 0, 1, 0, 1, 1, 0, 1}, {2, -1, 0, 3, 1, 0, 1, 1, 1, 1}}
}

// leaves takes data blocks by files of up to ten of them, until so many are free. All names are there first: they need blocks, too.
func (k *kit) leaves(left int) {
	k.t.Helper()
	const files = 40
	k.do(k.f.Mkdir("/fill"))
	for i := range files {
		k.do(k.f.Create(fmt.Sprint("/fill/", i)))
	}
	for i := range files {
		blocks, _ := k.f.Free()
		k.do(k.f.Append(fmt.Sprint("/fill/", i), make([]byte, min(blocks-left, api.Direct)*api.Block)))
	}
	if blocks, _ := k.f.Free(); blocks != left {
		k.t.Fatalf("the test's own device has %d blocks left, not %d", blocks, left)
	}
}

// leavesInodes takes inodes, until so many are free.
func (k *kit) leavesInodes(left int) {
	k.t.Helper()
	k.do(k.f.Mkdir("/taken"))
	for i := 0; ; i++ {
		if _, inodes := k.f.Free(); inodes == left {
			return
		}
		k.do(k.f.Create(fmt.Sprint("/taken/", i)))
	}
}
