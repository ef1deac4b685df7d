package cache_test

import (
	"bytes"
	"math"
	"slices"
	"testing"

	"bollard/api"
	"bollard/cache"
	"bollard/device"
	"bollard/journal"
)

const first = api.Journal // the first home

// full is a block that v tells, with no two bytes side by side the same; of 0 it is noughts, as a new device has them.
func full(v int) []byte {
	b := make([]byte, api.Block)
	for i := range b {
		if byte(v) != 0 {
			b[i] = byte(v + 7*i)
		}
	}
	return b
}

// told is the v of a block that full made; -1: it made none such.
func told(b []byte) int {
	if len(b) == api.Block && bytes.Equal(b, full(int(b[0]))) {
		return int(b[0])
	}
	return -1
}

// formatted is a device of n blocks with an empty journal.
func formatted(t *testing.T, n int) *device.Device {
	t.Helper()
	d, e := device.New(n)
	if e != api.OK {
		t.Fatalf("New(%d) = %d", n, e)
	}
	if e := journal.Format(d); e != api.OK {
		t.Fatalf("Format of %d blocks = %d", n, e)
	}
	return d
}

// opened is a journal that must open.
func opened(t *testing.T, d *device.Device) *journal.Journal {
	t.Helper()
	j, e := journal.Open(d)
	if e != api.OK {
		t.Fatalf("Open = %d", e)
	}
	return j
}

// made is a cache on a new device of n blocks, and what it stands on.
func made(t *testing.T, n int) (*device.Device, *journal.Journal, *cache.Cache) {
	t.Helper()
	d := formatted(t, n)
	j := opened(t, d)
	return d, j, cache.New(j)
}

// begin must be taken.
func begin(t *testing.T, c *cache.Cache) {
	t.Helper()
	if e := c.Begin(); e != api.OK {
		t.Fatalf("P5.1: Begin() = %d", e)
	}
}

// write must be taken, of block and v in turn.
func write(t *testing.T, c *cache.Cache, kv ...int) {
	t.Helper()
	for i := 0; i < len(kv); i += 2 {
		if e := c.Write(kv[i], full(kv[i+1])); e != api.OK {
			t.Fatalf("P5.2: Write(%d) = %d", kv[i], e)
		}
	}
}

// run must be taken: n blocks from k on.
func run(t *testing.T, c *cache.Cache, k, n, v int) {
	t.Helper()
	for i := range n {
		write(t, c, k+i, v+i)
	}
}

// commit must be taken.
func commit(t *testing.T, c *cache.Cache) {
	t.Helper()
	if e := c.Commit(); e != api.OK {
		t.Fatalf("P5.3: Commit() = %d", e)
	}
}

// abort must be taken.
func abort(t *testing.T, c *cache.Cache) {
	t.Helper()
	if e := c.Abort(); e != api.OK {
		t.Fatalf("P5.3: Abort() = %d", e)
	}
}

// reader is a cache, or a journal.
type reader interface {
	Read(k int) ([]byte, api.Errno)
}

// homes are what is read of the homes below n.
func homes(t *testing.T, r reader, n int) (out []int) {
	t.Helper()
	for k := first; k < n; k++ {
		b, e := r.Read(k)
		if e != api.OK || len(b) != api.Block {
			t.Fatalf("P5.2: Read(%d) = %d bytes, error %d", k, len(b), e)
		}
		out = append(out, told(b))
	}
	return out
}

// same holds a row of homes against v.
func same(t *testing.T, what string, got []int, v ...int) {
	t.Helper()
	if !slices.Equal(got, v) {
		t.Errorf("%s: homes %v, want %v", what, got, v)
	}
}

// is holds what a cache tells of its transaction against what it must.
func is(t *testing.T, what string, c *cache.Cache, open bool, dirty int) {
	t.Helper()
	if c.Open() != open || c.Dirty() != dirty {
		t.Errorf("P5.1: %s: Open() = %v, Dirty() = %d, want %v, %d", what, c.Open(), c.Dirty(), open, dirty)
	}
}

// answers holds errors against those that must be.
func answers(t *testing.T, what string, got []api.Errno, must ...api.Errno) {
	t.Helper()
	if !slices.Equal(got, must) {
		t.Errorf("%s: errors %v, want %v", what, got, must)
	}
}

// noHomes are numbers that are no home of a device with n blocks.
func noHomes(n int) []int {
	return []int{first - 1, 1, 0, -1, -first, n, n + 1, first + 1<<16, 1 << 16, first + 1<<32, first - 1<<32, math.MinInt, math.MinInt + first, math.MaxInt}
}

func TestExample(t *testing.T) {
	for _, was := range []int{0, 9} {
		_, _, c := made(t, 310)
		begin(t, c)
		write(t, c, 300, was)
		commit(t, c)
		begin(t, c)
		write(t, c, 300, 1)
		if b, e := c.Read(300); e != api.OK || told(b) != 1 {
			t.Errorf("the chapter's example: Read(300) = %x, error %d", b, e)
		}
		abort(t, c)
		if b, e := c.Read(300); e != api.OK || told(b) != was {
			t.Errorf("the chapter's example: Read(300) behind Abort = %x, error %d", b, e)
		}
	}
}

func TestBegin(t *testing.T) {
	ends := map[string]func(c *cache.Cache) api.Errno{"Commit": (*cache.Cache).Commit, "Abort": (*cache.Cache).Abort}
	for what, end := range ends {
		_, _, c := made(t, 310)
		is(t, "at first", c, false, 0)
		for round := range 6 {
			begin(t, c)
			is(t, "behind Begin", c, true, 0)
			answers(t, "P5.1: Begin of one that is open", []api.Errno{c.Begin(), c.Begin()}, api.ErrState, api.ErrState)
			is(t, "behind Begin twice", c, true, 0)
			run(t, c, first, round, 1)
			is(t, "behind writes", c, true, round)
			answers(t, "P5.1: Begin of one that wrote", []api.Errno{c.Begin()}, api.ErrState)
			is(t, "behind a Begin that was refused", c, true, round)
			if got := homes(t, c, 250); round > 0 && got[0] != 1 {
				t.Errorf("P5.1: a Begin that was refused took what was written: %v", got)
			}
			answers(t, "P5.3: "+what, []api.Errno{end(c)}, api.OK)
			is(t, "behind "+what, c, false, 0)
		}
	}
}

func TestDirty(t *testing.T) {
	_, _, c := made(t, 310)
	begin(t, c)
	want := []int{1, 1, 2, 2, 2, 3, 3}
	for i, k := range []int{300, 300, 301, 300, 301, first, 300} {
		write(t, c, k, i+1)
		is(t, "blocks that are written again", c, true, want[i])
		if b, e := c.Read(k); e != api.OK || told(b) != i+1 {
			t.Errorf("P5.2: Read(%d), written again, = %x, error %d", k, b, e)
		}
	}
	// What stands there already is written nevertheless.
	write(t, c, 309, 0)
	is(t, "a write of what it was", c, true, 4)
	c.Read(302)
	is(t, "a read of another one", c, true, 4)
}

// TestRead: what the transaction wrote, else what the journal tells.
func TestRead(t *testing.T) {
	d, j, c := made(t, 250)
	same(t, "P5.2: Read at first", homes(t, c, 250), 0, 0, 0, 0, 0)
	d.Write(249, full(70))
	same(t, "P5.2: Read of what the device has", homes(t, c, 250), 0, 0, 0, 0, 70)
	begin(t, c)
	write(t, c, 245, 1, 247, 2)
	same(t, "P5.2: Read within a transaction", homes(t, c, 250), 1, 0, 2, 0, 70)
	same(t, "P5.5: the journal ahead of a Commit", homes(t, j, 250), 0, 0, 0, 0, 70)
	commit(t, c)
	same(t, "P5.2: Read of what was committed", homes(t, c, 250), 1, 0, 2, 0, 70)
	begin(t, c)
	write(t, c, 247, 3, 246, 4)
	same(t, "P5.2: Read over what was committed", homes(t, c, 250), 1, 4, 3, 0, 70)
	abort(t, c)
	same(t, "P5.2: Read behind Abort", homes(t, c, 250), 1, 0, 2, 0, 70)
	begin(t, c)
	same(t, "P5.2: Read in the next transaction", homes(t, c, 250), 1, 0, 2, 0, 70)
	write(t, c, 245, 0)
	same(t, "P5.2: Read of noughts that were written", homes(t, c, 250), 0, 0, 2, 0, 70)
}

// TestReadOfNoHome: with and without a transaction.
func TestReadOfNoHome(t *testing.T) {
	for _, n := range []int{first + 1, 310} {
		_, _, c := made(t, n)
		check := func(what string) {
			t.Helper()
			for _, k := range noHomes(n) {
				if b, e := c.Read(k); b != nil || e != api.ErrArg {
					t.Errorf("P5.2: of %d blocks, %s: Read(%d) = %x, error %d", n, what, k, b, e)
				}
			}
		}
		check("without a transaction")
		begin(t, c)
		check("in one without writes")
		write(t, c, first, 1, n-1, 1)
		check("in a transaction")
		commit(t, c)
		check("behind it")
	}
}

// TestReadGoesOn: the journal may be changed by others, ahead of a transaction and within it.
func TestReadGoesOn(t *testing.T) {
	_, j, c := made(t, 248)
	begin(t, c)
	write(t, c, 245, 1)
	if e := j.Commit([]journal.Change{{Block: 245, Data: full(50)}, {Block: 246, Data: full(60)}}); e != api.OK {
		t.Fatalf("Commit = %d", e)
	}
	same(t, "P5.2: Read of what others committed", homes(t, c, 248), 1, 60, 0)
	abort(t, c)
	same(t, "P5.2: Read of what others committed, behind Abort", homes(t, c, 248), 50, 60, 0)
}

// TestWriteWithoutOne: ErrState, ahead of all that else is wrong.
func TestWriteWithoutOne(t *testing.T) {
	d, _, c := made(t, 310)
	check := func(what string) {
		t.Helper()
		ops, before := d.Ops(), homes(t, c, 310)
		for _, k := range append(noHomes(310), first, 300, 309) {
			for _, b := range [][]byte{nil, full(1)[:511], full(1), append(full(1), 1)} {
				if e := c.Write(k, b); e != api.ErrState {
					t.Errorf("P5.2: %s: Write(%d) of %d bytes = %d", what, k, len(b), e)
				}
			}
		}
		is(t, what, c, false, 0)
		same(t, "P5.2: "+what, homes(t, c, 310), before...)
		if d.Ops() != ops {
			t.Errorf("P5.2: %s: %d ops", what, d.Ops()-ops)
		}
	}
	check("at first")
	begin(t, c)
	run(t, c, first, 60, 1)
	commit(t, c)
	check("behind Commit")
	begin(t, c)
	run(t, c, first, 60, 2)
	abort(t, c)
	check("behind Abort")
}

// TestWriteRefused: ErrArg, ahead of ErrBig; nothing has happened, at each fill of the transaction.
func TestWriteRefused(t *testing.T) {
	d, _, c := made(t, 320)
	begin(t, c)
	refuse := func(k int, b []byte, must api.Errno) {
		t.Helper()
		if e := c.Write(k, b); e != must {
			t.Errorf("P5.2: Write(%d) of %d bytes, %d are written, = %d, want %d", k, len(b), c.Dirty(), e, must)
		}
	}
	for fill := 0; ; fill++ {
		ops, before := d.Ops(), homes(t, c, 320)
		for _, k := range noHomes(320) {
			refuse(k, full(99), api.ErrArg)
			refuse(k, nil, api.ErrArg)
		}
		for _, k := range []int{first, first + 20, first + 60, 319} {
			for _, b := range [][]byte{nil, {}, {1}, full(99)[:511], append(full(99), 1), append(full(99), full(99)...), make([]byte, 0, 512)} {
				refuse(k, b, api.ErrArg)
			}
		}
		if fill == 60 {
			for k := first + 60; k < 320; k++ {
				refuse(k, full(99), api.ErrBig)
			}
		}
		is(t, "behind writes that were refused", c, true, fill)
		same(t, "P5.2: behind writes that were refused", homes(t, c, 320), before...)
		if d.Ops() != ops {
			t.Errorf("P5.2: %d ops of writes that were refused", d.Ops()-ops)
		}
		if fill == 60 {
			return
		}
		write(t, c, first+fill, fill+1)
	}
}

// TestFullTransaction: 60 blocks; those that are written may be written again, and all of them are committed.
func TestFullTransaction(t *testing.T) {
	_, j, c := made(t, 320)
	begin(t, c)
	var want []int
	for k := first; k < 320; k++ {
		e := c.Write(k, full(k))
		if must := api.ErrBig; k >= first+60 && e != must || k < first+60 && e != api.OK {
			t.Errorf("P5.2: Write of block %d of a transaction = %d", k-first+1, e)
		}
		want = append(want, int(byte(k)))
	}
	clear(want[60:])
	same(t, "P5.2: a full transaction", homes(t, c, 320), want...)
	for i := range 60 {
		write(t, c, first+i, 200-i)
		want[i] = 200 - i
		is(t, "a full transaction", c, true, 60)
	}
	same(t, "P5.2: a full transaction, written again", homes(t, c, 320), want...)
	answers(t, "P5.2: the 61st block", []api.Errno{c.Write(first+60, full(1)), c.Write(319, full(1)), c.Write(first, full(200))}, api.ErrBig, api.ErrBig, api.OK)
	commit(t, c)
	same(t, "P5.3: a full transaction", homes(t, c, 320), want...)
	same(t, "P5.3: a full transaction, in the journal", homes(t, j, 320), want...)
	begin(t, c)
	run(t, c, 260, 60, 1)
	is(t, "the next one has as much room", c, true, 60)
}

// TestWrote: of the blocks that the open transaction wrote alone, whatever they are.
func TestWrote(t *testing.T) {
	_, _, c := made(t, 320)
	check := func(what string, want ...int) {
		t.Helper()
		for _, k := range append(noHomes(320), 245, 246, 300, 305, 319) {
			if got := c.Wrote(k); got != slices.Contains(want, k) {
				t.Errorf("%s: Wrote(%d) = %v", what, k, got)
			}
		}
	}
	for _, end := range []func() api.Errno{c.Commit, c.Abort} {
		check("without a transaction")
		begin(t, c)
		check("in one without writes")
		write(t, c, 300, 1, 319, 0, 245, 2, 300, 3)
		c.Read(246)
		c.Write(305, nil)
		c.Write(0, full(1))
		check("behind writes", 300, 319, 245)
		if e := end(); e != api.OK {
			t.Errorf("P5.3: the end of a transaction = %d", e)
		}
		check("behind it")
	}
	var none *cache.Cache
	for _, c := range []*cache.Cache{none, {}, cache.New(nil)} {
		if c.Wrote(300) || c.Wrote(0) {
			t.Error("P5.4: Wrote of a nil or zero Cache is true")
		}
	}
}

// TestFirstAndLastHome: of devices of several sizes.
func TestFirstAndLastHome(t *testing.T) {
	for _, n := range []int{first + 1, first + 2, 1000, 32769, api.MaxBlocks} {
		d, j, c := made(t, n)
		begin(t, c)
		answers(t, "P5.2: Write at the ends", []api.Errno{c.Write(first-1, full(1)), c.Write(n, full(1)), c.Write(first, full(2)), c.Write(n-1, full(3))}, api.ErrArg, api.ErrArg, api.OK, api.OK)
		is(t, "writes at the ends", c, true, min(2, n-first))
		commit(t, c)
		for what, r := range map[string]reader{"": c, " of the journal": j, " behind a crash": opened(t, d.Crash(nil))} {
			if b, e := r.Read(n - 1); e != api.OK || told(b) != 3 {
				t.Errorf("P5.3: of %d blocks: Read%s of the last home = %x, error %d", n, what, b, e)
			}
			if b, e := r.Read(first); n > first+1 && (e != api.OK || told(b) != 2) {
				t.Errorf("P5.3: of %d blocks: Read%s of the first home = %x, error %d", n, what, b, e)
			}
		}
	}
}

// TestForget: what was forgotten was not written, and leaves room for another block; all else of the transaction stays.
func TestForget(t *testing.T) {
	_, _, c := made(t, 320)
	begin(t, c)
	write(t, c, 300, 1)
	commit(t, c)
	c.Forget(300)
	same(t, "Forget without a transaction", homes(t, c, 320)[300-first:303-first], 1, 0, 0)

	begin(t, c)
	c.Forget(300)
	write(t, c, 300, 2, 301, 3, 302, 4)
	c.Forget(300)
	c.Forget(302)
	for _, k := range noHomes(320) {
		c.Forget(k)
	}
	same(t, "Forget", homes(t, c, 320)[300-first:303-first], 1, 3, 0)
	is(t, "Forget", c, true, 1)
	if c.Wrote(300) || !c.Wrote(301) || c.Wrote(302) {
		t.Error("Forget: Wrote tells of blocks that were forgotten, or not of those that were not")
	}
	write(t, c, 302, 5)
	commit(t, c)
	same(t, "Forget, committed", homes(t, c, 320)[300-first:303-first], 1, 3, 5)

	begin(t, c)
	run(t, c, 250, 60, 1)
	answers(t, "P5.2: the 61st block", []api.Errno{c.Write(315, full(1))}, api.ErrBig)
	c.Forget(255)
	answers(t, "a block in place of one that was forgotten", []api.Errno{c.Write(315, full(1)), c.Write(316, full(1))}, api.OK, api.ErrBig)
	is(t, "Forget in a full transaction", c, true, 60)
	var none *cache.Cache
	for _, c := range []*cache.Cache{none, {}, cache.New(nil)} {
		c.Forget(300)
		is(t, "P5.4: Forget of a nil or zero Cache", c, false, 0)
	}
}
