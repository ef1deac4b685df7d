package groups_test

import (
	"fmt"
	"math"
	"strings"
	"testing"

	"bollard/api"
	"bollard/device"
	"bollard/fs"
	"bollard/groups"
	"bollard/part"
)

// Short names of errors and edges, for rows of calls.
const (
	ok    = api.OK
	arg   = api.ErrArg
	big   = api.ErrBig
	full  = api.ErrFull
	none  = api.ErrNone
	exist = api.ErrExist
	kind  = api.ErrKind
	busy  = api.ErrBusy
	off   = api.ErrOff
	bad   = api.ErrBad
	least = math.MinInt
	most  = math.MaxInt
	end   = 1 << 50 // the greatest offset, ID of a topic, and time
	limit = 200     // so many keys can be known
)

// dice are numbers without a pattern, the same ones at each run.
type dice uint64

func (x *dice) below(n int) int {
	*x = *x*6364136223846793005 + 1442695040888963407
	return int(uint64(*x) >> 33 % uint64(n))
}

// set are the settings that P18.1 names.
func set() api.Settings {
	return api.Settings{Segment: 2048, Bytes: -1, Age: -1, Compact: true, Delay: 0}
}

// key is one.
func key(group string, topic, part int) groups.Key {
	return groups.Key{Group: group, Topic: topic, Part: part}
}

// kit is a file system and the device under it.
type kit struct {
	t *testing.T
	d *device.Device
	f *fs.FS
}

// made is a new, empty file system.
func made(t *testing.T, blocks, inodes int) *kit {
	t.Helper()
	d, e := device.New(blocks)
	if e != ok {
		t.Fatalf("device.New(%d) = %d", blocks, e)
	}
	if e := fs.Mkfs(d, inodes); e != ok {
		t.Fatalf("P10.1: Mkfs of %d blocks and %d inodes = %d", blocks, inodes, e)
	}
	return mounted(t, d)
}

// mounted is the file system that a device has.
func mounted(t *testing.T, d *device.Device) *kit {
	t.Helper()
	f, e := fs.Mount(d)
	if e != ok {
		t.Fatalf("P10.1: Mount = %d", e)
	}
	return &kit{t, d, f}
}

// fork is a file system of its own with the same in it.
func (k *kit) fork() *kit {
	k.t.Helper()
	return mounted(k.t, k.d.Crash(nil))
}

// do are calls that must be OK.
func (k *kit) do(l ...api.Errno) {
	k.t.Helper()
	k.fails(ok, l...)
}

// fails are calls that must answer that error.
func (k *kit) fails(want api.Errno, l ...api.Errno) {
	k.t.Helper()
	for i, e := range l {
		if e != want {
			k.t.Fatalf("call %d of a row = %d, want %d", i, e, want)
		}
	}
}

// makes makes committed offsets, and opens them.
func (k *kit) makes(dir string) (*groups.Groups, *plain) {
	k.t.Helper()
	if e := groups.Make(k.f, dir); e != ok {
		k.t.Fatalf("P18.1: Make(%q) = %d", dir, e)
	}
	return k.opens(dir), newPlain(dir)
}

// opens is what Open reads.
func (k *kit) opens(dir string) *groups.Groups {
	k.t.Helper()
	g, e := groups.Open(k.f, dir)
	if e != ok || g == nil {
		k.t.Fatalf("P18.1: Open(%q) = %v %d", dir, g, e)
	}
	return g
}

// log is the partition that is there.
func (k *kit) log(dir string) *part.Part {
	k.t.Helper()
	p, e := part.Open(k.f, dir, set())
	if e != ok {
		k.t.Fatalf("P18.1: what is at %q is no partition: %d", dir, e)
	}
	return p
}

// knows is /g with n keys, each with an offset of its own.
func (k *kit) knows(n int) (*groups.Groups, *plain) {
	k.t.Helper()
	g, q := k.makes("/g")
	for i := range n {
		k.commits("P18.2", g, q, nth(i), 1000+7*i, i)
	}
	return g, q
}

// nth is the key i of those that knows commits.
func nth(i int) groups.Key {
	return key(fmt.Sprint("g", i%9), 1+i/9, i%8)
}

// commits holds Commit against the plain one.
func (k *kit) commits(promise string, g *groups.Groups, q *plain, x groups.Key, offset, now int) {
	k.t.Helper()
	want := q.commit(x, offset, now)
	if e := g.Commit(x, offset, now); e != want {
		k.t.Fatalf("%s: Commit(%.90v, %d, %d) = %d, want %d", promise, x, offset, now, e, want)
	}
}

// compacts holds Compact against 15's, of a twin of the partition, and tells what that told.
func (k *kit) compacts(promise string, g *groups.Groups, dir string, now int) bool {
	k.t.Helper()
	twin := k.fork()
	want, e := twin.log(dir).Compact(now)
	if done, code := g.Compact(now); done != want || code != e {
		k.t.Fatalf("%s: Compact(%d) = %v %d, want %v %d", promise, now, done, code, want, e)
	}
	if got, want := showAt(k.f, dir), showAt(twin.f, dir); got != want {
		k.t.Fatalf("%s: behind Compact(%d) there is\n%s\nwant\n%s", promise, now, got, want)
	}
	return want
}

// refuses must be an error of Commit, with which nothing changes.
func (k *kit) refuses(promise string, g *groups.Groups, q *plain, x groups.Key, offset, now int, want api.Errno) {
	k.t.Helper()
	k.still(promise, "a Commit that is refused", func() {
		k.t.Helper()
		if e := g.Commit(x, offset, now); e != want {
			k.t.Fatalf("%s: Commit(%.90v, %d, %d) = %d, want %d", promise, x, offset, now, e, want)
		}
	})
	k.is(promise, g, q)
}

// is must be all that is told of what was committed and of what was not.
func (k *kit) is(promise string, g *groups.Groups, q *plain) {
	k.t.Helper()
	if g.Len() != len(q.known) {
		k.t.Fatalf("%s: Len() = %d, want %d", promise, g.Len(), len(q.known))
	}
	for x := range q.known {
		k.finds(promise, g, q, x)
		for _, y := range neighbours(x) {
			k.finds(promise, g, q, y)
		}
	}
	for _, x := range strangers() {
		k.finds(promise, g, q, x)
	}
}

// finds holds Find against the plain one.
func (k *kit) finds(promise string, g *groups.Groups, q *plain, x groups.Key) {
	k.t.Helper()
	want, e := q.find(x)
	if offset, code := g.Find(x); offset != want || code != e {
		k.t.Fatalf("%s: Find(%.90v) = %d %d, want %d %d", promise, x, offset, code, want, e)
	}
}

// again must be told by those that are Opened anew, here, and behind a crash. Open changes nothing.
func (k *kit) again(promise string, q *plain) {
	k.t.Helper()
	k.still(promise, "Open", func() {
		k.t.Helper()
		k.is(promise, k.opens(q.dir), q)
	})
	fork := k.fork()
	fork.is(promise, fork.opens(q.dir), q)
}

// goesOn must be told behind some more that are committed.
func (k *kit) goesOn(promise string, q *plain) {
	k.t.Helper()
	g := k.opens(q.dir)
	for _, x := range q.keys() {
		k.commits(promise, g, q, x, q.known[x]/2, 3)
		break
	}
	k.commits(promise, g, q, key("goes on", 3, 4), 5, 0)
	k.commits(promise, g, q, key("goes on", 3, 4), 4, 9)
	k.commits(promise, g, q, key("goes on", 4, 3), 6, end)
	k.is(promise, g, q)
	k.again(promise, q)
	k.compacts(promise, g, q.dir, 7)
	k.is(promise, g, q)
	k.again(promise, q)
}

// wrongKeys are keys that may not be.
func wrongKeys() []groups.Key {
	l := []groups.Key{{}}
	for _, s := range wrongGroups() {
		l = append(l, key(s, 1, 0))
	}
	for _, n := range wrongTopics() {
		l = append(l, key("g", n, 0))
	}
	for _, n := range wrongParts() {
		l = append(l, key("g", 1, n))
	}
	return l
}

func wrongGroups() []string {
	return []string{"", ".", "..", "/", "a/b", "/g", "g/", "g\x00", "\x00", "\x00g", "g0\x00", strings.Repeat("n", 51), strings.Repeat("n", 52), strings.Repeat("n", 200000), strings.Repeat("\x00", 50)}
}

func wrongTopics() []int {
	return []int{0, -1, -2, -end, least, least + 1, end + 1, end + 2, 2 * end, 1 << 62, most - 1, most}
}

func wrongParts() []int {
	return []int{-1, -2, -8, least, least + 1, 8, 9, 255, 256, 1 << 32, most - 1, most}
}

// wrongNumbers are numbers that are neither an offset nor a time.
func wrongNumbers() []int {
	return []int{-1, -2, -end, least, least + 1, end + 1, end + 2, 2 * end, 1 << 62, most - 1, most}
}

// neighbours are keys that differ from one in one thing alone.
func neighbours(x groups.Key) []groups.Key {
	return []groups.Key{
		key(x.Group+"g", x.Topic, x.Part),
		key(x.Group[:len(x.Group)-1], x.Topic, x.Part),
		key(strings.ToUpper(x.Group), x.Topic, x.Part),
		key(x.Group+"\x00", x.Topic, x.Part),
		key(x.Group, x.Topic+1, x.Part),
		key(x.Group, x.Topic-1, x.Part),
		key(x.Group, -x.Topic, x.Part),
		key(x.Group, x.Topic, x.Part+1),
		key(x.Group, x.Topic, x.Part-1),
		key(x.Group, x.Topic, x.Part+8),
	}
}

// strangers are keys that may be, and such as may not.
func strangers() []groups.Key {
	return append(wrongKeys(), key("stranger", 1, 0), key("stranger", end, 7), key(strings.Repeat("s", 50), 5, 5))
}

// still does what must change nothing: neither the file system nor the device.
func (k *kit) still(promise, what string, do func()) {
	k.t.Helper()
	was, ops := show(k.f), k.d.Ops()
	do()
	if now := show(k.f); now != was || k.d.Ops() != ops {
		k.t.Fatalf("%s: %s changed something, by %d ops:\n%s\nwas\n%s", promise, what, k.d.Ops()-ops, now, was)
	}
}

// show is all that a file system tells: what is free, and each path with its kind, size and bytes.
func show(f *fs.FS) string {
	blocks, inodes := f.Free()
	return fmt.Sprintf("free %d %d\n", blocks, inodes) + showAt(f, "/")
}

func showAt(f *fs.FS, path string) string {
	var text strings.Builder
	showInto(&text, f, path)
	return text.String()
}

func showInto(text *strings.Builder, f *fs.FS, path string) {
	s, e := f.Stat(path)
	fmt.Fprintf(text, "%s %d %d %d", path, s.Kind, s.Size, e)
	if s.Kind == 1 {
		b, e := f.Read(path, 0, most)
		fmt.Fprintf(text, " %x %d\n", b, e)
		return
	}
	l, e := f.List(path)
	fmt.Fprintf(text, " %q %d\n", l, e)
	for _, name := range l {
		showInto(text, f, strings.TrimSuffix(path, "/")+"/"+name)
	}
}

// picks are what crashes choose: nothing, all, and some of what is pending.
func picks() [][]int {
	every := make([]int, 300)
	for i := range every {
		every[i] = 1
	}
	return [][]int{nil, every, {1}, {0, 1}, {0, 0, 1, 0, 1, 1, 0, 1}, {2, -1, 0, 3, 1, 0, 1, 1, 1, 1}}
}

// prepares makes the files by which leaves takes blocks: their names need blocks, too.
func (k *kit) prepares() {
	k.t.Helper()
	k.do(k.f.Mkdir("/fill"))
	for i := range fills {
		k.do(k.f.Create(fmt.Sprint("/fill/", i)))
	}
}

// fills is how many files take blocks.
const fills = 40

// leaves takes data blocks, up to ten by each file of those that were prepared, until so many are free.
func (k *kit) leaves(left int) {
	k.t.Helper()
	for i := range fills {
		blocks, _ := k.f.Free()
		if blocks <= left {
			break
		}
		k.do(k.f.Truncate(fmt.Sprint("/fill/", i), min(blocks-left, api.Direct)*api.Block))
	}
	if blocks, _ := k.f.Free(); blocks != left {
		k.t.Fatalf("the test's own device has %d blocks left, not %d", blocks, left)
	}
}

// leavesInodes takes inodes, until so many are free.
func (k *kit) leavesInodes(left int) {
	k.t.Helper()
	k.do(k.f.Mkdir("/taken"))
	for i := 0; ; i++ {
		if _, inodes := k.f.Free(); inodes == left {
			return
		}
		k.do(k.f.Create(fmt.Sprint("/taken/", i)))
	}
}
