package producers_test

import (
	"fmt"
	"math"
	"strings"
	"testing"

	"bollard/api"
	"bollard/device"
	"bollard/fs"
	"bollard/producers"
)

// Short names of errors and edges, for rows of calls.
const (
	ok    = api.OK
	arg   = api.ErrArg
	big   = api.ErrBig
	full  = api.ErrFull
	none  = api.ErrNone
	exist = api.ErrExist
	kind  = api.ErrKind
	off   = api.ErrOff
	bad   = api.ErrBad
	gap   = api.ErrGap
	least = math.MinInt
	most  = math.MaxInt
	end   = 1 << 50 // the greatest offset
	room  = 60      // so many producers can be known
	limit = 2000    // so many bytes the file may have
)

// dice are numbers without a pattern, the same ones at each run.
type dice uint64

func (x *dice) below(n int) int {
	*x = *x*6364136223846793005 + 1442695040888963407
	return int(uint64(*x) >> 33 % uint64(n))
}

// plain is who is known, as the chapter says it: by each number a seq and a base.
type plain map[int][2]int

func (q plain) clone() plain {
	c := plain{}
	for n, x := range q {
		c[n] = x
	}
	return c
}

func (q plain) check(producer, seq int) (base int, again bool, e api.Errno) {
	x, known := q[producer]
	switch {
	case producer < 1 || seq < 0:
		return 0, false, arg
	case !known && len(q) == room:
		return 0, false, big
	case !known && seq != 0:
		return 0, false, gap
	case !known:
		return 0, false, ok
	case seq == x[0]:
		return x[1], true, ok
	case x[0] != most && seq == x[0]+1:
		return 0, false, ok
	}
	return 0, false, gap
}

func (q plain) accept(producer, seq, base int) api.Errno {
	_, known := q[producer]
	switch {
	case producer < 1 || seq < 0 || base < 0 || base > end:
		return arg
	case !known && len(q) == room:
		return big
	}
	q[producer] = [2]int{seq, base}
	return ok
}

// kit is a file system and the device under it.
type kit struct {
	t *testing.T
	d *device.Device
	f *fs.FS
}

// made is a new, empty file system.
func made(t *testing.T, blocks, inodes int) *kit {
	t.Helper()
	d, e := device.New(blocks)
	if e != ok {
		t.Fatalf("device.New(%d) = %d", blocks, e)
	}
	if e := fs.Mkfs(d, inodes); e != ok {
		t.Fatalf("P10.1: Mkfs of %d blocks and %d inodes = %d", blocks, inodes, e)
	}
	return mounted(t, d)
}

// mounted is the file system that a device has.
func mounted(t *testing.T, d *device.Device) *kit {
	t.Helper()
	f, e := fs.Mount(d)
	if e != ok {
		t.Fatalf("P10.1: Mount = %d", e)
	}
	return &kit{t, d, f}
}

// fork is a file system of its own with the same in it.
func (k *kit) fork() *kit {
	k.t.Helper()
	return mounted(k.t, k.d.Crash(nil))
}

// do are calls that must be OK.
func (k *kit) do(l ...api.Errno) {
	k.t.Helper()
	for i, e := range l {
		if e != ok {
			k.t.Fatalf("call %d of a row = %d", i, e)
		}
	}
}

// fails are calls that must answer that error.
func (k *kit) fails(want api.Errno, l ...api.Errno) {
	k.t.Helper()
	for i, e := range l {
		if e != want {
			k.t.Fatalf("call %d of a row = %d, want %d", i, e, want)
		}
	}
}

// makes makes a file of producers, and opens it.
func (k *kit) makes(path string) *producers.Producers {
	k.t.Helper()
	if e := producers.Make(k.f, path); e != ok {
		k.t.Fatalf("P16.1: Make(%q) = %d", path, e)
	}
	return k.opens(path)
}

// opens is what Open reads.
func (k *kit) opens(path string) *producers.Producers {
	k.t.Helper()
	p, e := producers.Open(k.f, path)
	if e != ok || p == nil {
		k.t.Fatalf("P16.1: Open(%q) = %v %d", path, p, e)
	}
	return p
}

// knows is a file at a path that knows n producers: 100 and on, each with a seq and a base of its own.
func (k *kit) knows(path string, n int) (*producers.Producers, plain) {
	k.t.Helper()
	p, q := k.makes(path), plain{}
	for i := range n {
		k.accepts("P16.3", p, q, 100+i, 3*i, 1000+7*i)
	}
	return p, q
}

// checks holds Check against the plain one.
func (k *kit) checks(promise string, p *producers.Producers, q plain, producer, seq int) {
	k.t.Helper()
	base, again, e := q.check(producer, seq)
	if b, a, code := p.Check(producer, seq); b != base || a != again || code != e {
		k.t.Fatalf("%s: Check(%d, %d) = %d %v %d, want %d %v %d", promise, producer, seq, b, a, code, base, again, e)
	}
}

// accepts holds Accept against the plain one.
func (k *kit) accepts(promise string, p *producers.Producers, q plain, producer, seq, base int) {
	k.t.Helper()
	want := q.accept(producer, seq, base)
	if e := p.Accept(producer, seq, base); e != want {
		k.t.Fatalf("%s: Accept(%d, %d, %d) = %d, want %d", promise, producer, seq, base, e, want)
	}
}

// refuses must be an error of Accept, with which nothing changes.
func (k *kit) refuses(promise string, p *producers.Producers, q plain, producer, seq, base int, want api.Errno) {
	k.t.Helper()
	k.still(promise, "an Accept that is refused", func() {
		k.t.Helper()
		if e := p.Accept(producer, seq, base); e != want {
			k.t.Fatalf("%s: Accept(%d, %d, %d) = %d, want %d", promise, producer, seq, base, e, want)
		}
	})
	k.is(promise, p, q)
}

// is must be all that is told of who is known and who is not.
func (k *kit) is(promise string, p *producers.Producers, q plain) {
	k.t.Helper()
	if p.Len() != len(q) {
		k.t.Fatalf("%s: Len() = %d, want %d", promise, p.Len(), len(q))
	}
	for n, x := range q {
		for _, seq := range []int{x[0], x[0] - 1, x[0] - 2, x[0] + 1, x[0] + 2, 0, -1} {
			k.checks(promise, p, q, n, seq)
		}
	}
	for _, n := range []int{least, -1, 0, 1, 2, 7, 8, 99, 100, 160, 1 << 32, most} {
		for _, seq := range []int{least, -1, 0, 1, 2, 100, most} {
			k.checks(promise, p, q, n, seq)
		}
	}
}

// again must be told by the file that is Opened anew, here, and behind a crash.
func (k *kit) again(promise, path string, q plain) {
	k.t.Helper()
	k.is(promise, k.opens(path), q)
	fork := k.fork()
	fork.is(promise, fork.opens(path), q)
}

// goesOn must be told behind some more that are accepted.
func (k *kit) goesOn(promise, path string, q plain) {
	k.t.Helper()
	p := k.opens(path)
	for n, x := range q {
		k.accepts(promise, p, q, n, x[0]/2+1, x[1]/2)
		break
	}
	k.accepts(promise, p, q, 5555, 5, 55)
	k.accepts(promise, p, q, 5555, 6, 56)
	k.accepts(promise, p, q, 4444, 0, 77)
	k.is(promise, p, q)
	k.again(promise, path, q)
}

// lay makes a file of those bytes.
func (k *kit) lay(path string, b []byte) {
	k.t.Helper()
	k.do(k.f.Create(path))
	for len(b) > 0 {
		n := min(len(b), 8192)
		k.do(k.f.Append(path, b[:n]))
		b = b[n:]
	}
}

// bytes are a file's.
func (k *kit) bytes(path string) []byte {
	k.t.Helper()
	b, e := k.f.Read(path, 0, most)
	if e != ok {
		k.t.Fatalf("Read(%q) = %d", path, e)
	}
	return b
}

// still does what must change nothing: neither the file system nor the device.
func (k *kit) still(promise, what string, do func()) {
	k.t.Helper()
	was, ops := show(k.f), k.d.Ops()
	do()
	if now := show(k.f); now != was || k.d.Ops() != ops {
		k.t.Fatalf("%s: %s changed something, by %d ops:\n%s\nwas\n%s", promise, what, k.d.Ops()-ops, now, was)
	}
}

// show is all that a file system tells: what is free, and each path with its kind, size and bytes.
func show(f *fs.FS) string {
	blocks, inodes := f.Free()
	return fmt.Sprintf("free %d %d\n", blocks, inodes) + showAt(f, "/")
}

func showAt(f *fs.FS, path string) string {
	s, e := f.Stat(path)
	text := fmt.Sprintf("%s %d %d %d", path, s.Kind, s.Size, e)
	if s.Kind == 1 {
		b, e := f.Read(path, 0, most)
		return text + fmt.Sprintf(" %x %d\n", b, e)
	}
	l, e := f.List(path)
	text += fmt.Sprintf(" %q %d\n", l, e)
	for _, name := range l {
		text += showAt(f, strings.TrimSuffix(path, "/")+"/"+name)
	}
	return text
}

// picks are what crashes choose: nothing, all, and some of what is pending.
func picks() [][]int {
	every := make([]int, 300)
	for i := range every {
		every[i] = 1
	}
	return [][]int{nil, every, {1}, {0, 1}, {0, 0, 1, 0, 1, 1, 0, 1}, {2, -1, 0, 3, 1, 0, 1, 1, 1, 1}}
}

// fillUp takes all data blocks that are free, by files of up to ten blocks. All names are there first: they need blocks, too.
func (k *kit) fillUp() {
	k.t.Helper()
	const files = 20
	for i := range files {
		k.do(k.f.Create(fmt.Sprint("/fill", i)))
	}
	for i := range files {
		blocks, _ := k.f.Free()
		k.do(k.f.Append(fmt.Sprint("/fill", i), make([]byte, min(blocks, api.Direct)*api.Block)))
	}
	if blocks, _ := k.f.Free(); blocks != 0 {
		k.t.Fatalf("the test's own device has %d blocks left", blocks)
	}
}
