package dir_test

import (
	"fmt"
	"math"
	"slices"
	"strings"
	"testing"

	"bollard/api"
	"bollard/dir"
)

// TestExample is the chapter's.
func TestExample(t *testing.T) {
	k := made(t, 600, 12)
	k.begin()
	k.size(0, 0)
	k.add(0, "a", 1, api.OK)
	k.add(0, "b", 2, api.OK)
	k.remove(0, "a", api.OK)
	k.add(0, "c", 3, api.OK)
	k.size(0, 2)
	k.commit()
	k.holds(0, plain{{Name: "c", Inode: 3}, {Name: "b", Inode: 2}})
}

// TestSlots: a name takes the first free slot, or a new one behind all; all other slots are as they were; the size never falls.
func TestSlots(t *testing.T) {
	k := made(t, 600, 12)
	k.begin()
	var p plain
	for i := range 20 {
		k.add(0, name(i), i, api.OK)
		p = p.add(name(i), i)
		k.size(0, i+1)
	}
	for _, gone := range [][]int{{0}, {19}, {7}, {3, 5}, {5, 3}, {8, 7, 9}, {15, 16, 2, 0, 19}, {1, 2, 3, 4, 5, 6, 7, 8, 9, 10, 11, 12, 13, 14, 15, 16, 17, 18, 19, 0}} {
		for _, slot := range gone {
			before := k.slots(0)
			k.remove(0, p[slot].Name, api.OK)
			p = p.set(slot, dir.Entry{})
			k.onlySlot("Remove", before, slot)
		}
		k.holds(0, p)
		for n, slot := range slices.Sorted(slices.Values(gone)) {
			s := fmt.Sprint("new", n, len(gone), slot)
			before := k.slots(0)
			k.add(0, s, 100+n, api.OK)
			p = p.add(s, 100+n)
			if p[slot].Name != s {
				t.Fatalf("%q is not in the slot %d", s, slot)
			}
			k.onlySlot("Add", before, slot)
		}
		k.holds(0, p)
		k.size(0, 20)
	}
	k.add(0, "behind", 1, api.OK)
	k.size(0, 21)
	k.commit()
	k.holds(0, p.add("behind", 1))
}

// onlySlot must be what is another one now.
func (k *kit) onlySlot(what string, before []string, slot int) {
	k.t.Helper()
	after := k.slots(0)
	if len(after) != len(before) {
		k.t.Fatalf("P9.2: %s: %d slots, there were %d", what, len(after), len(before))
	}
	for i := range after {
		if (after[i] != before[i]) != (i == slot) {
			k.t.Fatalf("P9.2: %s of the name in slot %d: the slot %d is %q, it was %q", what, slot, i, after[i], before[i])
		}
	}
}

// TestAddAgain: a name that is there is refused, whatever it leads to; one that was removed is not.
func TestAddAgain(t *testing.T) {
	k := made(t, 600, 12)
	k.begin()
	k.add(0, "a", 5, api.OK)
	k.add(0, "b", 6, api.OK)
	unchanged := k.same()
	for _, i := range []int{5, 6, 0, -1} {
		k.add(0, "a", i, api.ErrExist)
		k.add(0, "b", i, api.ErrExist)
	}
	unchanged("an Add that is refused")
	k.remove(0, "a", api.OK)
	k.add(0, "b", 7, api.ErrExist)
	k.add(0, "a", 8, api.OK)
	k.add(0, "a", 9, api.ErrExist)
	k.commit()
	k.holds(0, plain{{Name: "a", Inode: 8}, {Name: "b", Inode: 6}})
	k.begin()
	k.add(0, "a", 9, api.ErrExist)
	k.remove(0, "a", api.OK)
	k.remove(0, "a", api.ErrNone)
	k.noFind(0, "a", api.ErrNone)
	k.move(0, "a", 1, api.ErrNone)
	k.commit()
	k.holds(0, plain{{}, {Name: "b", Inode: 6}})
}

// TestMove: the name leads elsewhere, in its slot; all other slots are as they were.
func TestMove(t *testing.T) {
	k := made(t, 600, 12)
	k.begin()
	var p plain
	for i := range 12 {
		k.add(0, name(i), i, api.OK)
		p = p.add(name(i), i)
	}
	k.remove(0, name(4), api.OK)
	p = p.set(4, dir.Entry{})
	for i := range 12 {
		if i == 4 {
			continue
		}
		before := k.slots(0)
		k.move(0, name(i), 100+i, api.OK)
		p = p.set(i, dir.Entry{Name: name(i), Inode: 100 + i})
		k.onlySlot("Move", before, i)
		k.holds(0, p)
		// To where it leads already: nothing is another one.
		k.move(0, name(i), 100+i, api.OK)
		k.holds(0, p)
	}
	unchanged := k.same()
	k.move(0, name(4), 1, api.ErrNone)
	k.move(0, name(12), 1, api.ErrNone)
	unchanged("a Move that is refused")
	k.commit()
	k.holds(0, p)
}

// numbers are inodes that a name may lead to: all that there are.
func numbers() []int {
	return []int{0, 1, 2, 255, 256, 4095, 4096, 65535, 65536, 1<<31 - 1, 1 << 31, 1<<32 - 1, 1 << 32, 1<<48 + 5, 1<<56 - 1, 1 << 56, math.MaxInt - 1, math.MaxInt, -1, -2, -256, -1 << 31, -1<<31 - 1, -1 << 32, math.MinInt, math.MinInt + 1}
}

// TestInodes: a name leads to the very inode it was given, the least and the greatest, and to several names the same.
func TestInodes(t *testing.T) {
	k := made(t, 600, 12)
	k.begin()
	var p plain
	for n, i := range numbers() {
		s := strings.Repeat("n", 50-n)
		k.add(0, s, i, api.OK)
		k.find(0, s, i)
		p = p.add(s, i)
	}
	k.holds(0, p)
	for n := range p {
		i := numbers()[len(p)-1-n]
		k.move(0, p[n].Name, i, api.OK)
		k.find(0, p[n].Name, i)
		p = p.set(n, dir.Entry{Name: p[n].Name, Inode: i})
	}
	k.add(0, "twice", p[0].Inode, api.OK)
	k.holds(0, p.add("twice", p[0].Inode))
	k.commit()
	k.holds(0, p.add("twice", p[0].Inode))
}

// TestList: by rising names, byte by byte, of none, one and many.
func TestList(t *testing.T) {
	k := made(t, 600, 12)
	k.holds(0, nil)
	k.begin()
	k.holds(0, nil)
	k.add(0, "one", 1, api.OK)
	k.holds(0, plain{{Name: "one", Inode: 1}})
	k.remove(0, "one", api.OK)
	k.holds(0, plain{{}})
	want := []string{"\x01", " ", "...", "0", "10", "2", "A", "B", "Z", "a", "a\x01", "a ", "aa", "ab", "b", "z", "\x7f", "é", "\xff", "\xff\xff"}
	for n := range want {
		s := want[(n*7)%len(want)]
		k.add(0, s, n, api.OK)
	}
	l, _ := dir.List(k.s, 0)
	var got []string
	for _, e := range l {
		got = append(got, e.Name)
	}
	if !slices.Equal(got, want) {
		t.Errorf("P9.2: List = %q, want %q", got, want)
	}
}

// TestDirectories: names of one directory are nothing to another.
func TestDirectories(t *testing.T) {
	k := made(t, 600, 12)
	k.begin()
	one, two := k.make(2), k.make(2)
	for n, d := range []int{0, one, two} {
		k.add(d, "a", 10+n, api.OK)
		k.add(d, fmt.Sprint(n), 20+n, api.OK)
	}
	k.remove(one, "a", api.OK)
	k.move(two, "a", 99, api.OK)
	k.noFind(one, "2", api.ErrNone)
	k.remove(0, "1", api.ErrNone)
	k.move(two, "0", 1, api.ErrNone)
	k.commit()
	k.holds(0, plain{{Name: "a", Inode: 10}, {Name: "0", Inode: 20}})
	k.holds(one, plain{{}, {Name: "1", Inode: 21}})
	k.holds(two, plain{{Name: "a", Inode: 99}, {Name: "2", Inode: 22}})
}

// TestGreat: directories of several blocks, and beyond those without a block of numbers, up to the greatest: then 8's ErrBig, until a slot is free.
func TestGreat(t *testing.T) {
	k := made(t, 600, 12)
	var p plain
	const most = api.MaxFile / 64
	for i := range most {
		if i%40 == 0 {
			k.begin()
		}
		k.add(0, name(i), i, api.OK)
		p = append(p, dir.Entry{Name: name(i), Inode: i})
		if i%40 == 39 || i == most-1 {
			k.commit()
		}
		if slices.Contains([]int{7, 8, 79, 80, 81, 400, most - 1}, i) {
			k.holds(0, p)
		}
	}
	k.size(0, most)
	k.begin()
	unchanged := k.same()
	k.add(0, "more", 1, api.ErrBig)
	k.add(0, name(3), 1, api.ErrExist)
	k.add(0, name(most-1), 1, api.ErrExist)
	k.remove(0, "more", api.ErrNone)
	unchanged("an Add to the greatest directory")
	for _, slot := range []int{most - 1, 0, 79, 80, 500} {
		k.remove(0, name(slot), api.OK)
		k.add(0, "more", 1, api.OK)
		k.add(0, "yet more", 1, api.ErrBig)
		k.size(0, most)
		k.find(0, "more", 1)
		k.remove(0, "more", api.OK)
		k.add(0, name(slot), slot, api.OK)
	}
	k.move(0, name(1000), 7, api.OK)
	k.remove(0, name(1001), api.OK)
	k.commit()
	k.holds(0, p.set(1000, dir.Entry{Name: name(1000), Inode: 7}).set(1001, dir.Entry{}))
}
