package dir_test

import (
	"bytes"
	"fmt"
	"math"
	"slices"
	"strings"
	"testing"

	"bollard/alloc"
	"bollard/api"
	"bollard/cache"
	"bollard/device"
	"bollard/dir"
	"bollard/inode"
	"bollard/journal"
	"bollard/layout"
)

// kit is a Store and what it stands on.
type kit struct {
	t *testing.T
	d *device.Device
	c *cache.Cache
	a *alloc.Alloc
	s *inode.Store
	p api.Plan
}

// on is a kit on a device that has a journal.
func on(t *testing.T, d *device.Device, p api.Plan) *kit {
	t.Helper()
	j, e := journal.Open(d)
	if e != api.OK {
		t.Fatalf("journal.Open = %d", e)
	}
	c := cache.New(j)
	a := alloc.New(c, p)
	return &kit{t, d, c, a, inode.New(c, a, p), p}
}

// made is a kit with an empty directory, the inode 0.
func made(t *testing.T, n, inodes int) *kit {
	t.Helper()
	p, e := layout.Make(n, inodes)
	if e != api.OK {
		t.Fatalf("Make(%d, %d) = %d", n, inodes, e)
	}
	d, _ := device.New(n)
	journal.Format(d)
	k := on(t, d, p)
	k.step(func() {
		k.must("alloc.Format()", k.a.Format(), api.OK)
		k.must("inode.Format()", k.s.Format(), api.OK)
	})
	return k
}

// must holds an error against the one that is asked for.
func (k *kit) must(what string, got, want api.Errno) {
	k.t.Helper()
	if got != want {
		k.t.Fatalf("%s = %d, want %d", what, got, want)
	}
}

func (k *kit) begin() {
	k.t.Helper()
	k.must("Begin()", k.c.Begin(), api.OK)
}

func (k *kit) commit() {
	k.t.Helper()
	k.must("Commit()", k.c.Commit(), api.OK)
}

func (k *kit) abort() {
	k.t.Helper()
	k.must("Abort()", k.c.Abort(), api.OK)
}

// step is a transaction that is committed.
func (k *kit) step(do func()) {
	k.t.Helper()
	k.begin()
	do()
	k.commit()
}

// make makes an inode.
func (k *kit) make(kind int) int {
	k.t.Helper()
	i, e := k.s.Make(kind)
	k.must("inode.Make", e, api.OK)
	return i
}

// add must answer that.
func (k *kit) add(d int, name string, i int, want api.Errno) {
	k.t.Helper()
	if e := dir.Add(k.s, d, name, i); e != want {
		k.t.Fatalf("P9.2: Add(%d, %q, %d) = %d, want %d", d, name, i, e, want)
	}
}

// remove must answer that.
func (k *kit) remove(d int, name string, want api.Errno) {
	k.t.Helper()
	if e := dir.Remove(k.s, d, name); e != want {
		k.t.Fatalf("P9.2: Remove(%d, %q) = %d, want %d", d, name, e, want)
	}
}

// move must answer that.
func (k *kit) move(d int, name string, i int, want api.Errno) {
	k.t.Helper()
	if e := dir.Move(k.s, d, name, i); e != want {
		k.t.Fatalf("P9.2: Move(%d, %q, %d) = %d, want %d", d, name, i, e, want)
	}
}

// find must lead to an inode.
func (k *kit) find(d int, name string, want int) {
	k.t.Helper()
	if i, e := dir.Find(k.s, d, name); i != want || e != api.OK {
		k.t.Fatalf("P9.2: Find(%d, %q) = %d %d, want %d 0", d, name, i, e, want)
	}
}

// noFind must be refused.
func (k *kit) noFind(d int, name string, want api.Errno) {
	k.t.Helper()
	if i, e := dir.Find(k.s, d, name); i != 0 || e != want {
		k.t.Fatalf("P9.2: Find(%d, %q) = %d %d, want 0 %d", d, name, i, e, want)
	}
}

// noList must be refused.
func (k *kit) noList(d int, want api.Errno) {
	k.t.Helper()
	if l, e := dir.List(k.s, d); len(l) != 0 || e != want {
		k.t.Fatalf("P9.2: List(%d) = %v %d, want nothing and %d", d, l, e, want)
	}
}

// size must be that of so many slots.
func (k *kit) size(d, slots int) {
	k.t.Helper()
	if st, e := k.s.Stat(d); e != api.OK || st != (api.Stat{Kind: 2, Size: 64 * slots}) {
		k.t.Fatalf("P9.2: Stat(%d) = %v %d, want a directory of %d slots", d, st, e, slots)
	}
}

// bytes are a directory's.
func (k *kit) bytes(d int) []byte {
	k.t.Helper()
	b, e := k.s.Read(d, 0, math.MaxInt)
	k.must("inode.Read", e, api.OK)
	return b
}

// slots are a directory's, as text.
func (k *kit) slots(d int) (l []string) {
	k.t.Helper()
	for one := range slices.Chunk(k.bytes(d), 64) {
		l = append(l, string(one))
	}
	return l
}

// same is a check that nothing has happened since.
func (k *kit) same() func(what string) {
	k.t.Helper()
	look := func() (int, []byte) {
		var all []byte
		for b := api.Journal; b < k.p.Blocks; b++ {
			one, _ := k.c.Read(b)
			all = append(all, one...)
		}
		return k.c.Dirty(), all
	}
	dirty, all := look()
	return func(what string) {
		k.t.Helper()
		if n, now := look(); n != dirty || !bytes.Equal(now, all) {
			k.t.Fatalf("P9.2: %s changed something", what)
		}
	}
}

// plain is a directory as plain slots; one whose name is empty is free.
type plain []dir.Entry

// at is the slot of a name; -1: there is none.
func (p plain) at(name string) int {
	return slices.IndexFunc(p, func(e dir.Entry) bool { return e.Name == name })
}

// add is p with a name more.
func (p plain) add(name string, i int) plain {
	p = slices.Clone(p)
	slot := p.at("")
	if slot < 0 {
		return append(p, dir.Entry{Name: name, Inode: i})
	}
	p[slot] = dir.Entry{Name: name, Inode: i}
	return p
}

// set is p with another entry in a slot.
func (p plain) set(slot int, e dir.Entry) plain {
	p = slices.Clone(p)
	p[slot] = e
	return p
}

// list is what List must answer.
func (p plain) list() (l []dir.Entry) {
	for _, e := range p {
		if e.Name != "" {
			l = append(l, e)
		}
	}
	slices.SortFunc(l, func(a, b dir.Entry) int { return strings.Compare(a.Name, b.Name) })
	return l
}

// holds holds a directory against plain slots: its size, its names, and that each of them is found.
func (k *kit) holds(d int, p plain) {
	k.t.Helper()
	k.size(d, len(p))
	l, e := dir.List(k.s, d)
	if e != api.OK || !slices.Equal(l, p.list()) {
		k.t.Fatalf("P9.4: List(%d) = %v %d, want %v", d, l, e, p.list())
	}
	for _, e := range l {
		k.find(d, e.Name, e.Inode)
	}
}

// name is one of many.
func name(i int) string {
	return fmt.Sprint("name", i*7919%1009, ".", i)
}

// dice are numbers without a pattern, the same ones at each run.
type dice uint64

func (x *dice) below(n int) int {
	*x = *x*6364136223846793005 + 1442695040888963407
	return int(uint64(*x) >> 33 % uint64(n))
}
