package part_test

import (
	"fmt"
	"math"
	"reflect"
	"slices"
	"strings"
	"testing"

	"bollard/api"
	"bollard/batch"
	"bollard/device"
	"bollard/fs"
	"bollard/part"
)

// Short names of errors and edges, for rows of calls.
const (
	ok      = api.OK
	arg     = api.ErrArg
	big     = api.ErrBig
	full    = api.ErrFull
	none    = api.ErrNone
	exist   = api.ErrExist
	kind    = api.ErrKind
	busy    = api.ErrBusy
	off     = api.ErrOff
	bad     = api.ErrBad
	badSpot = api.ErrRange
	least   = math.MinInt
	most    = math.MaxInt
	last    = 1 << 50 // the greatest offset, and the greatest time
)

// dice are numbers without a pattern, the same ones at each run.
type dice uint64

func (x *dice) below(n int) int {
	*x = *x*6364136223846793005 + 1442695040888963407
	return int(uint64(*x) >> 33 % uint64(n))
}

// records are some, of few keys, with times about now.
func (x *dice) records(now int) (l []api.Record) {
	for range 1 + x.below(4) {
		r := api.Record{Time: max(0, now+x.below(30)-15), Off: x.below(9)}
		if x.below(5) > 0 {
			r.HasKey, r.Key = true, []string{"", "a", "b", "c"}[x.below(4)]
		}
		if x.below(3) > 0 {
			r.HasVal, r.Val = true, strings.Repeat("v", x.below(120))
		}
		l = append(l, r)
	}
	return l
}

// kept are settings by which all is kept.
func kept(segment int) api.Settings {
	return api.Settings{Segment: segment, Bytes: -1, Age: -1}
}

// recs are records of a time: `a=1` has a key and a value, `-=1` no key, `a=-` no value.
func recs(time int, l ...string) (out []api.Record) {
	for _, s := range l {
		k, v, _ := strings.Cut(s, "=")
		r := api.Record{Time: time, HasKey: k != "-", HasVal: v != "-"}
		if r.HasKey {
			r.Key = k
		}
		if r.HasVal {
			r.Val = v
		}
		out = append(out, r)
	}
	return out
}

// timed are records without keys, of those times.
func timed(times ...int) (out []api.Record) {
	for _, time := range times {
		out = append(out, recs(time, "-=v")...)
	}
	return out
}

// sized is one record whose batch has n bytes: 80 to 4055 of them.
func sized(t *testing.T, n int) []api.Record {
	t.Helper()
	l := recs(7, "=")
	count := func() int { return len(laid(t, fresh(t, 0, 0, 0, l))) }
	for _, p := range []*string{&l[0].Key, &l[0].Val} {
		*p = strings.Repeat("x", max(0, min(n-count()-1, api.MaxRecord)))
	}
	for count() < n {
		l[0].Val += "y"
	}
	if count() != n {
		t.Fatalf("the test's own batch has %d bytes, not %d", count(), n)
	}
	return l
}

// fresh is the batch of records.
func fresh(t *testing.T, base, producer, seq int, l []api.Record) api.Batch {
	t.Helper()
	b, e := batch.Fresh(base, producer, seq, l)
	if e != ok {
		t.Fatalf("P13.4: Fresh of %d records = %d", len(l), e)
	}
	return b
}

// laid is the bytes of batches, one behind the other.
func laid(t *testing.T, l ...api.Batch) (p []byte) {
	t.Helper()
	for _, b := range l {
		q, e := batch.Encode(b)
		if e != ok {
			t.Fatalf("P13.2: Encode(%s) = %d", short(b), e)
		}
		p = append(p, q...)
	}
	return p
}

// kit is a file system and the device under it.
type kit struct {
	t *testing.T
	d *device.Device
	f *fs.FS
}

// made is a new, empty file system.
func made(t *testing.T, blocks, inodes int) *kit {
	t.Helper()
	d, e := device.New(blocks)
	if e != ok {
		t.Fatalf("device.New(%d) = %d", blocks, e)
	}
	if e := fs.Mkfs(d, inodes); e != ok {
		t.Fatalf("P10.1: Mkfs of %d blocks and %d inodes = %d", blocks, inodes, e)
	}
	return mounted(t, d)
}

// mounted is the file system that a device has.
func mounted(t *testing.T, d *device.Device) *kit {
	t.Helper()
	f, e := fs.Mount(d)
	if e != ok {
		t.Fatalf("P10.1: Mount = %d", e)
	}
	return &kit{t, d, f}
}

// fork is a file system of its own with the same in it.
func (k *kit) fork() *kit {
	k.t.Helper()
	return mounted(k.t, k.d.Crash(nil))
}

// do are calls that must be OK.
func (k *kit) do(l ...api.Errno) {
	k.t.Helper()
	for i, e := range l {
		if e != ok {
			k.t.Fatalf("call %d of a row = %d", i, e)
		}
	}
}

// lay makes a file of those bytes.
func (k *kit) lay(path string, p []byte) {
	k.t.Helper()
	k.do(k.f.Create(path), k.f.Append(path, p))
}

// makes makes a partition, and opens it.
func (k *kit) makes(dir string, s api.Settings) *part.Part {
	k.t.Helper()
	if e := part.Make(k.f, dir, s); e != ok {
		k.t.Fatalf("P15.1: Make(%q, %v) = %d", dir, s, e)
	}
	return k.opens(dir, s)
}

// opens is what Open reads.
func (k *kit) opens(dir string, s api.Settings) *part.Part {
	k.t.Helper()
	p, e := part.Open(k.f, dir, s)
	if e != ok || p == nil {
		k.t.Fatalf("P15.1: Open(%q, %v) = %v %d", dir, s, p, e)
	}
	return p
}

// filled is a partition at /p with one batch for each list, and the plain one.
func (k *kit) filled(s api.Settings, l ...[]api.Record) (*part.Part, *plain) {
	k.t.Helper()
	p, q := k.makes("/p", s), newPlain(k.t, s)
	for _, r := range l {
		k.appends("P15.2", p, q, 0, 0, r)
	}
	return p, q
}

// appends holds Append against the plain one.
func (k *kit) appends(promise string, p *part.Part, q *plain, producer, seq int, l []api.Record) {
	k.t.Helper()
	want, e := q.append(producer, seq, l)
	if got, code := p.Append(producer, seq, l); got != want || code != e {
		k.t.Fatalf("%s: Append(%d, %d, %d records) = %d %d, want %d %d", promise, producer, seq, len(l), got, code, want, e)
	}
}

// refuses must be an error of Append, with which nothing changes.
func (k *kit) refuses(promise string, p *part.Part, producer, seq int, l []api.Record, want api.Errno) {
	k.t.Helper()
	k.still(promise, "an Append that is refused", func() {
		k.t.Helper()
		if base, e := p.Append(producer, seq, l); base != 0 || e != want {
			k.t.Fatalf("%s: Append(%d, %d, %d records) = %d %d, want 0 %d", promise, producer, seq, len(l), base, e, want)
		}
	})
}

// retains holds Retain against the plain one.
func (k *kit) retains(p *part.Part, q *plain, now int) bool {
	k.t.Helper()
	want := q.retain(now)
	if gone, e := p.Retain(now); gone != want || e != ok {
		k.t.Fatalf("P15.4: Retain(%d) = %v %d, want %v", now, gone, e, want)
	}
	return want
}

// compacts holds Compact against the plain one.
func (k *kit) compacts(p *part.Part, q *plain, now int) bool {
	k.t.Helper()
	want := q.compact(now)
	if done, e := p.Compact(now); done != want || e != ok {
		k.t.Fatalf("P15.5: Compact(%d) = %v %d, want %v", now, done, e, want)
	}
	return want
}

// is must be all that a partition tells, and the files of its directory.
func (k *kit) is(promise string, p *part.Part, q *plain) {
	k.t.Helper()
	k.tells(promise, p, q)
	if got, want := k.files(p.Dir()), q.files(); !reflect.DeepEqual(got, want) {
		k.t.Fatalf("%s: the files are %v, want %v", promise, got, want)
	}
}

// tells must be all that a partition tells.
func (k *kit) tells(promise string, p *part.Part, q *plain) {
	k.t.Helper()
	got := fmt.Sprint(p.Start(), p.Next(), p.Segments())
	if want := fmt.Sprint(q.start(), q.next(), q.bases()); got != want {
		k.t.Fatalf("%s: Start, Next and Segments are %s, want %s", promise, got, want)
	}
	k.reads(promise, p, q, q.start(), most)
}

// again must be told by the partition that is Opened anew, here, and behind a crash.
func (k *kit) again(promise string, dir string, q *plain) {
	k.t.Helper()
	k.is(promise, k.opens(dir, q.set), q)
	fork := k.fork()
	fork.is(promise, fork.opens(dir, q.set), q)
}

// reads holds Read against the plain one.
func (k *kit) reads(promise string, p *part.Part, q *plain, offset, max int) {
	k.t.Helper()
	want, e := q.read(offset, max)
	if l, code := p.Read(offset, max); !same(l, want) || code != e {
		k.t.Fatalf("%s: Read(%d, %d) = %v %d, want %v %d", promise, offset, max, shorts(l), code, shorts(want), e)
	}
}

// finds holds At against the plain one.
func (k *kit) finds(promise string, p *part.Part, q *plain, time int) {
	k.t.Helper()
	if at, want := p.At(time), q.at(time); at != want {
		k.t.Fatalf("%s: At(%d) = %d, want %d", promise, time, at, want)
	}
}

// files are the names of a directory, each with its bytes.
func (k *kit) files(dir string) map[string]string {
	k.t.Helper()
	names, e := k.f.List(dir)
	if e != ok {
		k.t.Fatalf("List(%q) = %d", dir, e)
	}
	m := map[string]string{}
	for _, name := range names {
		b, _ := k.f.Read(strings.TrimSuffix(dir, "/")+"/"+name, 0, most)
		m[name] = fmt.Sprintf("%x", b)
	}
	return m
}

// still does what must change nothing: neither the file system nor the device.
func (k *kit) still(promise, what string, do func()) {
	k.t.Helper()
	was, ops := show(k.f), k.d.Ops()
	do()
	if now := show(k.f); now != was || k.d.Ops() != ops {
		k.t.Fatalf("%s: %s changed something, by %d ops:\n%s\nwas\n%s", promise, what, k.d.Ops()-ops, now, was)
	}
}

// same is whether two lists of batches tell the same.
func same(a, b []api.Batch) bool {
	return len(a) == 0 && len(b) == 0 || reflect.DeepEqual(a, b)
}

// short is a batch as a failure tells it.
func short(b api.Batch) string {
	s := fmt.Sprint(b.Base, "+", b.Span, " by ", b.Producer, ".", b.Seq)
	for _, r := range b.Records {
		s += fmt.Sprint(" ", r.Off, ":", r.Key)
	}
	return s
}

func shorts(l []api.Batch) (s []string) {
	for _, b := range l {
		s = append(s, short(b))
	}
	return s
}

// copied is batches in memory of their own.
func copied(l []api.Batch) []api.Batch {
	l = slices.Clone(l)
	for i := range l {
		l[i].Records = slices.Clone(l[i].Records)
	}
	return l
}

// show is all that a file system tells: what is free, and each path with its kind, size and bytes.
func show(f *fs.FS) string {
	blocks, inodes := f.Free()
	return fmt.Sprintf("free %d %d\n", blocks, inodes) + showAt(f, "/")
}

func showAt(f *fs.FS, path string) string {
	s, e := f.Stat(path)
	text := fmt.Sprintf("%s %d %d %d", path, s.Kind, s.Size, e)
	if s.Kind == 1 {
		b, e := f.Read(path, 0, most)
		return text + fmt.Sprintf(" %x %d\n", b, e)
	}
	l, e := f.List(path)
	text += fmt.Sprintf(" %q %d\n", l, e)
	for _, name := range l {
		text += showAt(f, strings.TrimSuffix(path, "/")+"/"+name)
	}
	return text
}
