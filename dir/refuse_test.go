package dir_test

import (
	"math"
	"strings"
	"testing"

	"bollard/api"
	"bollard/dir"
	"bollard/inode"
)

// noNumbers are numbers that are no inode of 12 ones.
func noNumbers() []int {
	return []int{-1, -2, -12, 12, 13, 64, 4095, 4096, 1 << 16, 1 << 32, 1 - 1<<32, 1 << 61, math.MinInt, math.MinInt + 1, math.MaxInt}
}

// refused are all calls of a directory and a name, of which each must be refused.
func (k *kit) refused(d int, s string, want api.Errno) {
	k.t.Helper()
	k.add(d, s, 1, want)
	k.remove(d, s, want)
	k.move(d, s, 1, want)
	k.noFind(d, s, want)
}

// TestNoDirectory: ErrNone of what is none, ErrKind of a file; a name that may not be is told first.
func TestNoDirectory(t *testing.T) {
	k := made(t, 600, 12)
	k.step(func() {
		k.make(1)
		k.make(1)
		k.add(0, "a", 1, api.OK)
		// Bytes that would be slots are none in a file.
		k.must("inode.Write", k.s.Write(2, 0, k.bytes(0)), api.OK)
	})
	k.begin()
	unchanged := k.same()
	for _, s := range []string{"a", "b", strings.Repeat("n", 50)} {
		for _, d := range append(noNumbers(), 3, 11) {
			k.refused(d, s, api.ErrNone)
			k.noList(d, api.ErrNone)
		}
		for _, d := range []int{1, 2} {
			k.refused(d, s, api.ErrKind)
			k.noList(d, api.ErrKind)
		}
	}
	for _, s := range []string{"", ".", "..", "/", "a\x00", strings.Repeat("n", 51)} {
		for _, d := range append(noNumbers(), 0, 1, 2, 3) {
			k.refused(d, s, api.ErrArg)
		}
	}
	unchanged("a call that is refused")
	k.must("inode.Drop", k.s.Drop(2), api.OK)
	k.refused(2, "a", api.ErrNone)
	k.noList(2, api.ErrNone)
}

// TestWithoutTransaction: every call that changes something is ErrState, ahead of all else; Find and List need none.
func TestWithoutTransaction(t *testing.T) {
	k := made(t, 600, 12)
	var p plain
	k.step(func() {
		k.make(1)
		for i := range 9 {
			k.add(0, name(i), i, api.OK)
			p = p.add(name(i), i)
		}
	})
	check := func(what string) {
		t.Helper()
		unchanged := k.same()
		for _, d := range append(noNumbers(), 0, 1, 2) {
			for _, s := range append([]string{"", ".", "/", "a", name(3), strings.Repeat("n", 51)}, bad()[:20]...) {
				for _, i := range []int{0, 1, -1, math.MaxInt} {
					k.add(d, s, i, api.ErrState)
					k.move(d, s, i, api.ErrState)
				}
				k.remove(d, s, api.ErrState)
			}
		}
		unchanged(what)
		k.holds(0, p)
		k.noFind(0, "a", api.ErrNone)
		k.noFind(0, "", api.ErrArg)
		k.noFind(1, "a", api.ErrKind)
		k.noFind(2, "a", api.ErrNone)
		k.noList(1, api.ErrKind)
		k.noList(2, api.ErrNone)
	}
	check("behind Commit")
	k.begin()
	k.add(0, "a", 1, api.OK)
	k.remove(0, name(3), api.OK)
	k.abort()
	check("behind Abort")
}

// TestNobody: of a nil or zero Store each call is refused with 8's ErrState, Find of a name that may not be with ErrArg.
func TestNobody(t *testing.T) {
	var none *inode.Store
	for _, s := range []*inode.Store{none, {}, inode.New(nil, nil, api.Plan{})} {
		k := &kit{t: t, s: s}
		for _, d := range append(noNumbers(), 0, 1) {
			for _, n := range []string{"a", strings.Repeat("n", 50)} {
				k.refused(d, n, api.ErrState)
				k.noList(d, api.ErrState)
			}
			for _, n := range []string{"", "/", ".."} {
				k.add(d, n, 1, api.ErrState)
				k.remove(d, n, api.ErrState)
				k.move(d, n, 1, api.ErrState)
				k.noFind(d, n, api.ErrArg)
			}
		}
	}
}

// takeAllBut lets so many blocks be free, within the transaction.
func (k *kit) takeAllBut(left int) {
	k.t.Helper()
	for n, _ := k.a.Free(); n > left; n-- {
		_, e := k.a.TakeBlock()
		k.must("TakeBlock", e, api.OK)
	}
}

// TestFullDevice: 8's ErrFull, where a new slot would need a block and none is free; the eleventh block needs one of numbers beside.
func TestFullDevice(t *testing.T) {
	for _, slots := range []int{0, 8, 16, 72, 80, 88} {
		need := 1
		if slots == 80 {
			need = 2
		}
		k := made(t, 600, 12)
		var p plain
		k.begin()
		for i := range slots {
			k.add(0, name(i), i, api.OK)
			p = append(p, dir.Entry{Name: name(i), Inode: i})
		}
		k.commit()
		for left := range need + 1 {
			k.begin()
			k.takeAllBut(left)
			if left < need {
				unchanged := k.same()
				k.add(0, "more", 1, api.ErrFull)
				k.add(0, "", 1, api.ErrArg)
				if slots > 0 {
					k.add(0, name(0), 1, api.ErrExist)
				}
				unchanged("an Add without room")
				k.holds(0, p)
				k.noFind(0, "more", api.ErrNone)
				if slots > 0 {
					// What needs no new slot is done.
					k.remove(0, name(slots-1), api.OK)
					k.add(0, "more", 1, api.OK)
					k.move(0, "more", 2, api.OK)
					k.find(0, "more", 2)
				}
			} else {
				k.add(0, "more", 1, api.OK)
				k.holds(0, p.add("more", 1))
				free, _ := k.a.Free()
				if free != 0 {
					t.Errorf("P9.2: of a directory of %d slots a new one needed %d blocks", slots, left-free)
				}
			}
			k.abort()
			k.holds(0, p)
		}
	}
	// Within a block that it has a directory needs none.
	k := made(t, 600, 12)
	k.begin()
	k.add(0, "a", 1, api.OK)
	k.takeAllBut(0)
	for i := range 7 {
		k.add(0, name(i), i, api.OK)
	}
	k.add(0, "more", 1, api.ErrFull)
	k.size(0, 8)
}

// TestFullTransaction: 8's ErrBig, where the transaction has 60 blocks already; an Abort undoes all.
func TestFullTransaction(t *testing.T) {
	k := made(t, 600, 12)
	var p plain
	k.step(func() {
		for i := range 9 {
			k.add(0, name(i), i, api.OK)
			p = p.add(name(i), i)
		}
	})
	for _, call := range []func() api.Errno{
		func() api.Errno { return dir.Add(k.s, 0, "more", 1) },
		func() api.Errno { return dir.Remove(k.s, 0, name(3)) },
		func() api.Errno { return dir.Move(k.s, 0, name(8), 77) },
	} {
		k.begin()
		for b := k.p.Blocks - 1; k.c.Dirty() < 60; b-- {
			k.must("cache.Write", k.c.Write(b, make([]byte, 512)), api.OK)
		}
		k.add(0, name(3), 1, api.ErrExist)
		k.remove(0, "more", api.ErrNone)
		k.must("P9.2: a call in a transaction that is full", call(), api.ErrBig)
		k.abort()
		k.holds(0, p)
	}
}

// TestOneBlock: a name that is added into a free slot, moved or removed writes one block of its directory, and nothing else.
func TestOneBlock(t *testing.T) {
	k := made(t, 600, 12)
	k.begin()
	for i := range 200 {
		k.add(0, name(i), i, api.OK)
	}
	k.remove(0, name(50), api.OK)
	k.commit()
	for what, call := range map[string]func() api.Errno{
		"Add":    func() api.Errno { return dir.Add(k.s, 0, "more", 1) },
		"Remove": func() api.Errno { return dir.Remove(k.s, 0, name(3)) },
		"Move":   func() api.Errno { return dir.Move(k.s, 0, name(199), 77) },
	} {
		k.begin()
		k.must("P9.2: "+what, call(), api.OK)
		if n := k.c.Dirty(); n != 1 {
			t.Errorf("P9.2: %s wrote %d blocks", what, n)
		}
		k.abort()
	}
}

// TestTornSlots: bytes that no call of this package laid let none panic.
func TestTornSlots(t *testing.T) {
	for seed := range 60 {
		k := made(t, 600, 12)
		k.begin()
		x := dice(seed)
		b := make([]byte, x.below(700))
		for at := range b {
			b[at] = byte(x.below(256) * x.below(2))
		}
		k.must("inode.Write", k.s.Write(0, 0, b), api.OK)
		l, e := dir.List(k.s, 0)
		k.must("P9.2: List", e, api.OK)
		if len(l) > len(b)/64 {
			t.Errorf("P9.2: %d names in %d bytes", len(l), len(b))
		}
		k.add(0, "a", 5, api.OK)
		k.find(0, "a", 5)
		k.move(0, "a", 6, api.OK)
		k.remove(0, "a", api.OK)
		k.noFind(0, "a", api.ErrNone)
		if m, _ := dir.List(k.s, 0); len(m) != len(l) {
			t.Errorf("P9.4: %d names, there were %d", len(m), len(l))
		}
	}
}
