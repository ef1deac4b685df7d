package inode_test

import (
	"bytes"
	"math"
	"strconv"
	"testing"

	"bollard/alloc"
	"bollard/api"
	"bollard/cache"
	"bollard/device"
	"bollard/inode"
	"bollard/journal"
	"bollard/layout"
)

// kit is a Store and what it stands on.
type kit struct {
	t *testing.T
	d *device.Device
	c *cache.Cache
	a *alloc.Alloc
	s *inode.Store
	p api.Plan
}

// bare is a kit on a new device on which only the journal is formatted.
func bare(t *testing.T, n, inodes int) *kit {
	t.Helper()
	p, e := layout.Make(n, inodes)
	if e != api.OK {
		t.Fatalf("Make(%d, %d) = %d", n, inodes, e)
	}
	d, e := device.New(n)
	if e != api.OK {
		t.Fatalf("New(%d) = %d", n, e)
	}
	if e := journal.Format(d); e != api.OK {
		t.Fatalf("journal.Format = %d", e)
	}
	return on(t, d, p)
}

// on is a kit on a device that has a journal.
func on(t *testing.T, d *device.Device, p api.Plan) *kit {
	t.Helper()
	j, e := journal.Open(d)
	if e != api.OK {
		t.Fatalf("journal.Open = %d", e)
	}
	c := cache.New(j)
	a := alloc.New(c, p)
	return &kit{t, d, c, a, inode.New(c, a, p), p}
}

// made is a kit that is formatted and committed.
func made(t *testing.T, n, inodes int) *kit {
	t.Helper()
	k := bare(t, n, inodes)
	k.begin()
	k.must("alloc.Format()", k.a.Format(), api.OK)
	k.must("P8.1: Format()", k.s.Format(), api.OK)
	k.commit()
	return k
}

// must holds an error against the one that is asked for.
func (k *kit) must(what string, got, want api.Errno) {
	k.t.Helper()
	if got != want {
		k.t.Fatalf("%s = %d, want %d (of the plan %v)", what, got, want, k.p)
	}
}

func (k *kit) begin() {
	k.t.Helper()
	k.must("Begin()", k.c.Begin(), api.OK)
}

func (k *kit) commit() {
	k.t.Helper()
	k.must("Commit()", k.c.Commit(), api.OK)
}

func (k *kit) abort() {
	k.t.Helper()
	k.must("Abort()", k.c.Abort(), api.OK)
}

// step is a transaction that is committed.
func (k *kit) step(do func()) {
	k.t.Helper()
	k.begin()
	do()
	k.commit()
}

// make must make the inode want.
func (k *kit) make(kind, want int) {
	k.t.Helper()
	if i, e := k.s.Make(kind); i != want || e != api.OK {
		k.t.Fatalf("P8.1: Make(%d) = %d %d, want %d 0", kind, i, e, want)
	}
}

// noMake is a Make that must be refused.
func (k *kit) noMake(kind int, want api.Errno) {
	k.t.Helper()
	if i, e := k.s.Make(kind); i != 0 || e != want {
		k.t.Fatalf("P8.1: Make(%d) = %d %d, want 0 %d", kind, i, e, want)
	}
}

// stat must be that kind and size.
func (k *kit) stat(i, kind, size int) {
	k.t.Helper()
	want := api.Stat{Kind: kind, Size: size}
	if st, e := k.s.Stat(i); st != want || e != api.OK {
		k.t.Fatalf("P8.1: Stat(%d) = %v %d, want %v 0", i, st, e, want)
	}
}

// none must be none.
func (k *kit) none(i int) {
	k.t.Helper()
	if st, e := k.s.Stat(i); st != (api.Stat{}) || e != api.ErrNone {
		k.t.Fatalf("P8.1: Stat(%d) = %v %d, want {0 0} %d", i, st, e, api.ErrNone)
	}
}

// write must be done.
func (k *kit) write(i, at int, b []byte) {
	k.t.Helper()
	if e := k.s.Write(i, at, b); e != api.OK {
		k.t.Fatalf("P8.3: Write(%d, %d, %d bytes) = %d", i, at, len(b), e)
	}
}

// truncate must be done.
func (k *kit) truncate(i, size int) {
	k.t.Helper()
	if e := k.s.Truncate(i, size); e != api.OK {
		k.t.Fatalf("P8.3: Truncate(%d, %d) = %d", i, size, e)
	}
}

// drop must be done.
func (k *kit) drop(i int) {
	k.t.Helper()
	if e := k.s.Drop(i); e != api.OK {
		k.t.Fatalf("P8.1: Drop(%d) = %d", i, e)
	}
}

// read must answer those bytes.
func (k *kit) read(i, at, n int, want []byte) {
	k.t.Helper()
	got, e := k.s.Read(i, at, n)
	if e != api.OK || !bytes.Equal(got, want) {
		k.t.Fatalf("P8.2: Read(%d, %d, %d) = %s %d, want %s", i, at, n, short(got), e, short(want))
	}
}

// noRead is a Read that must be refused.
func (k *kit) noRead(i, at, n int, want api.Errno) {
	k.t.Helper()
	if b, e := k.s.Read(i, at, n); len(b) != 0 || e != want {
		k.t.Fatalf("P8.2: Read(%d, %d, %d) = %s %d, want nothing and %d", i, at, n, short(b), e, want)
	}
}

// holds is whether a file is those bytes, all of them.
func (k *kit) holds(i int, want []byte) {
	k.t.Helper()
	k.read(i, 0, math.MaxInt, want)
	st, e := k.s.Stat(i)
	if e != api.OK || st.Size != len(want) {
		k.t.Fatalf("P8.1: Stat(%d) = %v %d, want the size %d", i, st, e, len(want))
	}
}

// short is bytes for a failure's text.
func short(b []byte) string {
	if len(b) > 40 {
		return strconv.Quote(string(b[:40])) + ".. of " + strconv.Itoa(len(b))
	}
	return strconv.Quote(string(b))
}

// free must be so many blocks and inodes.
func (k *kit) free(blocks, inodes int) {
	k.t.Helper()
	if b, i := k.a.Free(); b != blocks || i != inodes {
		k.t.Fatalf("P8.1: %d blocks and %d inodes are free, want %d and %d", b, i, blocks, inodes)
	}
}

// blocks are how many are free.
func (k *kit) blocks() int {
	n, _ := k.a.Free()
	return n
}

// takeAllBut lets so many blocks be free, within the transaction.
func (k *kit) takeAllBut(left int) {
	k.t.Helper()
	for k.blocks() > left {
		if _, e := k.a.TakeBlock(); e != api.OK {
			k.t.Fatalf("TakeBlock() = %d", e)
		}
	}
}

// has is how many blocks a file of that size has, by the chapter's words.
func has(size int) int {
	n := size / 512
	if size%512 != 0 {
		n++
	}
	if n > 10 {
		n++
	}
	return n
}

// text is so many bytes without a pattern that a block would have; another seed, other bytes; none of them is 0.
func text(seed, n int) []byte {
	x := dice(seed)
	b := make([]byte, n)
	for i := range b {
		b[i] = byte(1 + x.below(255))
	}
	return b
}

// dice are numbers without a pattern, the same ones at each run.
type dice uint64

func (x *dice) below(n int) int {
	*x = *x*6364136223846793005 + 1442695040888963407
	return int(uint64(*x) >> 33 % uint64(n))
}

// same is a check that nothing has happened since: no block of a home is another one, nor was one written, but for those that were.
func (k *kit) same() func(what string) {
	k.t.Helper()
	open, dirty, all := k.c.Open(), k.c.Dirty(), k.homes()
	return func(what string) {
		k.t.Helper()
		if k.c.Open() != open || k.c.Dirty() != dirty || !bytes.Equal(k.homes(), all) {
			k.t.Fatalf("P8.4: %s changed something", what)
		}
	}
}

// homes are the bytes of all homes, as the transaction sees them.
func (k *kit) homes() (all []byte) {
	for b := api.Journal; b < k.p.Blocks; b++ {
		one, _ := k.c.Read(b)
		all = append(all, one...)
	}
	return all
}

// noNumbers are numbers that are no inode of 12 ones.
func noNumbers() []int {
	return []int{
		-1, -2, -8, -12, -64, 12, 13, 15, 16, 64, 4095, 4096, 4097, 1 << 16, 1 << 20, 1 << 32, 1<<32 + 1, -1 << 32, 1 - 1<<32, 1 << 60, 1 << 61,
		1<<61 + 1, 1<<58 + 1, math.MinInt, math.MinInt + 1, math.MinInt + 8, math.MaxInt, math.MaxInt - 1, math.MaxInt - 7,
	}
}
