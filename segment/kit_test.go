package segment_test

import (
	"bytes"
	"fmt"
	"math"
	"reflect"
	"slices"
	"strings"
	"testing"

	"bollard/api"
	"bollard/batch"
	"bollard/device"
	"bollard/fs"
	"bollard/segment"
)

// Short names of errors and edges, for rows of calls.
const (
	ok      = api.OK
	arg     = api.ErrArg
	big     = api.ErrBig
	full    = api.ErrFull
	none    = api.ErrNone
	exist   = api.ErrExist
	kind    = api.ErrKind
	off     = api.ErrOff
	badSpot = api.ErrRange
	least   = math.MinInt
	most    = math.MaxInt
	last    = 1 << 50 // the greatest offset, and the greatest time
)

// dice are numbers without a pattern, the same ones at each run.
type dice uint64

func (x *dice) below(n int) int {
	*x = *x*6364136223846793005 + 1442695040888963407
	return int(uint64(*x) >> 33 % uint64(n))
}

// text is one of up to n bytes of all values.
func (x *dice) text(n int) string {
	b := make([]byte, x.below(n+1))
	for i := range b {
		b[i] = byte(x.below(256))
	}
	return string(b)
}

// batch is one that may be, from that offset on.
func (x *dice) batch(base int) api.Batch {
	b := api.Batch{Base: base, Span: 1 + x.below(6), Producer: x.below(3), Seq: x.below(9)}
	for at := x.below(b.Span); at < b.Span; at += 1 + x.below(3) {
		r := api.Record{Time: x.below(50), Off: at}
		if x.below(2) > 0 {
			r.HasKey, r.Key = true, x.text(9)
		}
		if x.below(3) > 0 {
			r.HasVal, r.Val = true, x.text(90)
		}
		b.Records = append(b.Records, r)
	}
	return b
}

// timed is a batch of records with those times, one an offset.
func timed(base, span int, times ...int) api.Batch {
	b := api.Batch{Base: base, Span: span}
	for i, time := range times {
		b.Records = append(b.Records, api.Record{HasVal: true, Val: "v", Time: time, Off: i})
	}
	return b
}

// sized is a batch of one offset that has n bytes: 80 to 4055 of them.
func sized(t *testing.T, base, n int) api.Batch {
	t.Helper()
	b := timed(base, 1, 7)
	r := &b.Records[0]
	r.HasKey = true
	for _, p := range []*string{&r.Key, &r.Val} {
		left := n - len(laid(t, b)) - 1
		*p += strings.Repeat("x", max(0, min(left, api.MaxRecord-len(*p))))
	}
	for len(laid(t, b)) < n {
		r.Val += "y"
	}
	if len(laid(t, b)) != n {
		t.Fatalf("the test's own batch has %d bytes, not %d", len(laid(t, b)), n)
	}
	return b
}

// laid is the bytes of batches, one behind the other.
func laid(t *testing.T, l ...api.Batch) (p []byte) {
	t.Helper()
	for _, b := range l {
		q, e := batch.Encode(b)
		if e != ok {
			t.Fatalf("P13.2: Encode(%s) = %d", short(b), e)
		}
		p = append(p, q...)
	}
	return p
}

// row is batches that may stand one behind the other from 5 on, with gaps, and with times that do not rise.
func row() []api.Batch {
	l := []api.Batch{timed(5, 2, 30, 20), timed(9, 1, 25), timed(10, 3, 40), timed(13, 4, 8, 41, 41, 3), timed(200, 100, 0)}
	l[2].Records[0].Off = 2
	l[3].Producer, l[3].Seq = 3, 4
	l[3].Records[1].HasKey, l[3].Records[1].Key = true, "key"
	l[3].Records[2].HasVal, l[3].Records[2].Val = false, ""
	return l
}

// plain is a segment as a list.
type plain struct {
	base int
	l    []api.Batch
}

func (p plain) next() int {
	if len(p.l) == 0 {
		return p.base
	}
	b := p.l[len(p.l)-1]
	return b.Base + b.Span
}

func (p plain) last() int {
	last := -1
	for _, b := range p.l {
		for _, r := range b.Records {
			if r.Time > last {
				last = r.Time
			}
		}
	}
	return last
}

// read is P14.3, one word after the other.
func (p plain) read(t *testing.T, offset, max int) []api.Batch {
	t.Helper()
	for i, b := range p.l {
		if b.Base+b.Span > offset {
			end := i + 1
			for end < len(p.l) && len(laid(t, p.l[i:end+1]...)) <= max {
				end++
			}
			return p.l[i:end]
		}
	}
	return nil
}

func (p plain) at(time int) (int, bool) {
	for _, b := range p.l {
		for _, r := range b.Records {
			if r.Time >= time {
				return b.Base + r.Off, true
			}
		}
	}
	return 0, false
}

// append is what P14.2 says of a batch that has room.
func (p *plain) append(b api.Batch) api.Errno {
	if e := batch.Check(b); e != ok {
		return e
	}
	if b.Base < p.next() {
		return badSpot
	}
	p.l = append(p.l, b)
	return ok
}

// kit is a file system and the device under it.
type kit struct {
	t *testing.T
	d *device.Device
	f *fs.FS
}

// made is a new, empty file system.
func made(t *testing.T, blocks, inodes int) *kit {
	t.Helper()
	d, e := device.New(blocks)
	if e != ok {
		t.Fatalf("device.New(%d) = %d", blocks, e)
	}
	if e := fs.Mkfs(d, inodes); e != ok {
		t.Fatalf("P10.1: Mkfs of %d blocks and %d inodes = %d", blocks, inodes, e)
	}
	return mounted(t, d)
}

// mounted is the file system that a device has.
func mounted(t *testing.T, d *device.Device) *kit {
	t.Helper()
	f, e := fs.Mount(d)
	if e != ok {
		t.Fatalf("P10.1: Mount = %d", e)
	}
	return &kit{t, d, f}
}

// do are calls that must be OK.
func (k *kit) do(l ...api.Errno) {
	k.t.Helper()
	for i, e := range l {
		if e != ok {
			k.t.Fatalf("call %d of a row = %d", i, e)
		}
	}
}

// lay makes a file of those bytes, no more of them at once than a transaction has room for.
func (k *kit) lay(path string, p []byte) {
	k.t.Helper()
	k.do(k.f.Create(path))
	for piece := range slices.Chunk(p, 20*512) {
		k.do(k.f.Append(path, piece))
	}
}

// bytes are a file's.
func (k *kit) bytes(path string) []byte {
	k.t.Helper()
	p, e := k.f.Read(path, 0, most)
	if e != ok {
		k.t.Fatalf("Read of %s = %d", path, e)
	}
	return p
}

// makes is what Make makes.
func (k *kit) makes(path string, base int) *segment.Segment {
	k.t.Helper()
	s, e := segment.Make(k.f, path, base)
	if e != ok || s == nil {
		k.t.Fatalf("P14.1: Make(%q, %d) = %v %d", path, base, s, e)
	}
	return s
}

// opens is what Open reads.
func (k *kit) opens(path string, base int) *segment.Segment {
	k.t.Helper()
	s, e := segment.Open(k.f, path, base)
	if e != ok || s == nil {
		k.t.Fatalf("P14.1: Open(%q, %d) = %v %d", path, base, s, e)
	}
	return s
}

// full is a segment from 5 on with all batches of row, and the list of them.
func (k *kit) full(path string) (*segment.Segment, plain) {
	k.t.Helper()
	s, p := k.makes(path, 5), plain{base: 5}
	for _, b := range row() {
		k.appends("P14.2", s, b, p.append(b))
	}
	return s, p
}

// appends must be what Append answers.
func (k *kit) appends(promise string, s *segment.Segment, b api.Batch, want api.Errno) {
	k.t.Helper()
	if e := s.Append(b); e != want {
		k.t.Fatalf("%s: Append(%s) at Next %d = %d, want %d", promise, short(b), s.Next(), e, want)
	}
}

// is must be all that a segment tells, and its file's bytes.
func (k *kit) is(promise string, s *segment.Segment, path string, p plain) {
	k.t.Helper()
	k.tells(promise, s, p)
	if b := k.bytes(path); !bytes.Equal(b, laid(k.t, p.l...)) {
		k.t.Fatalf("%s: %s has %d bytes, want the %d of %d batches", promise, path, len(b), len(laid(k.t, p.l...)), len(p.l))
	}
}

// tells must be all that a segment tells.
func (k *kit) tells(promise string, s *segment.Segment, p plain) {
	k.t.Helper()
	got := [4]int{s.Base(), s.Next(), s.Size(), s.Last()}
	if want := [4]int{p.base, p.next(), len(laid(k.t, p.l...)), p.last()}; got != want {
		k.t.Fatalf("%s: Base, Next, Size and Last are %v, want %v", promise, got, want)
	}
	if l := s.All(); !same(l, p.l) {
		k.t.Fatalf("%s: All() = %v, want %v", promise, shorts(l), shorts(p.l))
	}
}

// reads holds Read against the list.
func (k *kit) reads(promise string, s *segment.Segment, p plain, offset, max int) {
	k.t.Helper()
	if l, want := s.Read(offset, max), p.read(k.t, offset, max); !same(l, want) {
		k.t.Fatalf("%s: Read(%d, %d) = %v, want %v", promise, offset, max, shorts(l), shorts(want))
	}
}

// finds holds At against the list.
func (k *kit) finds(promise string, s *segment.Segment, p plain, time int) {
	k.t.Helper()
	at, found := s.At(time)
	if want, there := p.at(time); at != want || found != there {
		k.t.Fatalf("%s: At(%d) = %d %v, want %d %v", promise, time, at, found, want, there)
	}
}

// still does what must change nothing: neither the file system nor the device.
func (k *kit) still(promise, what string, do func()) {
	k.t.Helper()
	was, ops := show(k.f), k.d.Ops()
	do()
	if now := show(k.f); now != was || k.d.Ops() != ops {
		k.t.Fatalf("%s: %s changed something, by %d ops:\n%s\nwas\n%s", promise, what, k.d.Ops()-ops, now, was)
	}
}

// refuses must be the error of Make and of Open, each unless it is OK; with it there is no segment, and nothing has changed.
func (k *kit) refuses(path string, base int, make, open api.Errno) {
	k.t.Helper()
	k.still("P14.1", fmt.Sprintf("Make or Open of %q, %d", path, base), func() {
		k.t.Helper()
		if make != ok {
			if s, e := segment.Make(k.f, path, base); s != nil || e != make {
				k.t.Fatalf("P14.1: Make(%q, %d) = %v %d, want %d", path, base, s, e, make)
			}
		}
		if open != ok {
			if s, e := segment.Open(k.f, path, base); s != nil || e != open {
				k.t.Fatalf("P14.1: Open(%q, %d) = %v %d, want %d", path, base, s, e, open)
			}
		}
	})
}

// same is whether two lists of batches tell the same.
func same(a, b []api.Batch) bool {
	return len(a) == 0 && len(b) == 0 || reflect.DeepEqual(a, b)
}

// short is a batch as a failure tells it.
func short(b api.Batch) string {
	return fmt.Sprint(b.Base, "+", b.Span, " by ", b.Producer, ".", b.Seq, " (", len(b.Records), " records)")
}

func shorts(l []api.Batch) (s []string) {
	for _, b := range l {
		s = append(s, short(b))
	}
	return s
}

// copied is batches in memory of their own.
func copied(l []api.Batch) []api.Batch {
	l = slices.Clone(l)
	for i := range l {
		l[i].Records = slices.Clone(l[i].Records)
	}
	return l
}

// show is all that a file system tells: what is free, and each path with its kind, size and bytes.
func show(f *fs.FS) string {
	blocks, inodes := f.Free()
	return fmt.Sprintf("free %d %d\n", blocks, inodes) + showAt(f, "/")
}

func showAt(f *fs.FS, path string) string {
	s, e := f.Stat(path)
	text := fmt.Sprintf("%s %d %d %d", path, s.Kind, s.Size, e)
	if s.Kind == 1 {
		b, e := f.Read(path, 0, most)
		return text + fmt.Sprintf(" %x %d\n", b, e)
	}
	l, e := f.List(path)
	text += fmt.Sprintf(" %q %d\n", l, e)
	for _, name := range l {
		text += showAt(f, strings.TrimSuffix(path, "/")+"/"+name)
	}
	return text
}
