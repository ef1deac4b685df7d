package dir_test

import (
	"strings"
	"testing"

	"bollard/api"
	"bollard/dir"
)

// good are names that may be.
func good() []string {
	l := []string{"a", "Z", "0", " ", "...", "....", ".a", "a.", "..a", "a..", ". ", "a.b", "\\", "\n", "\xff", "\x80\xfe", "\xc3", "é", strings.Repeat("é", 25), "\x01", "日本", "con", "*", "a b"}
	for n := 1; n <= 50; n++ {
		l = append(l, strings.Repeat("n", n))
		if n > 2 {
			l = append(l, strings.Repeat(".", n), strings.Repeat("\xff", n))
		}
	}
	return l
}

// bad are names that may not be.
func bad() []string {
	l := []string{"", ".", "..", "/", "\x00", "//", "/a", "a/", "a/b", "./", "../", "\x00\x00", strings.Repeat("é", 26), "\xff/\xff", "\xff\x00"}
	for n := 51; n <= 70; n++ {
		l = append(l, strings.Repeat("n", n))
	}
	l = append(l, strings.Repeat("n", 64), strings.Repeat("n", 256+10), strings.Repeat("n", 1<<16+10))
	for _, n := range []int{1, 2, 3, 49, 50} {
		for at := range n {
			for _, c := range []byte{0, '/'} {
				b := []byte(strings.Repeat("n", n))
				b[at] = c
				l = append(l, string(b))
			}
		}
	}
	return l
}

// TestName: which names may be.
func TestName(t *testing.T) {
	for _, s := range good() {
		if !dir.Name(s) {
			t.Errorf("P9.1: Name(%q) = false", s)
		}
	}
	for _, s := range bad() {
		if dir.Name(s) {
			t.Errorf("P9.1: Name(%q) = true", s)
		}
	}
	for c := range 256 {
		one := string([]byte{byte(c)})
		if want := c != 0 && c != '/' && c != '.'; dir.Name(one) != want {
			t.Errorf("P9.1: Name(%q) = %v", one, !want)
		}
		if want := c != 0 && c != '/'; dir.Name("a"+one) != want || dir.Name(one+"a") != want {
			t.Errorf("P9.1: with the byte %d Name is not %v", c, want)
		}
	}
}

// TestAllNames: each name that may be is added, found, told and removed as itself; of the others each call is ErrArg.
func TestAllNames(t *testing.T) {
	k := made(t, 900, 12)
	k.begin()
	var p plain
	for i, s := range good() {
		if p.at(s) < 0 {
			k.add(0, s, i, api.OK)
			p = p.add(s, i)
		}
	}
	k.holds(0, p)
	unchanged := k.same()
	for _, s := range bad() {
		k.add(0, s, 1, api.ErrArg)
		k.noFind(0, s, api.ErrArg)
		k.remove(0, s, api.ErrArg)
		k.move(0, s, 1, api.ErrArg)
	}
	for _, s := range good() {
		k.add(0, s, 1, api.ErrExist)
	}
	unchanged("a call that is refused")
	k.holds(0, p)
	k.commit()
	k.holds(0, p)
	k.begin()
	for slot, e := range p {
		k.remove(0, e.Name, api.OK)
		k.noFind(0, e.Name, api.ErrNone)
		p = p.set(slot, dir.Entry{})
		if slot%20 == 0 {
			k.holds(0, p)
		}
	}
	k.holds(0, p)
	k.commit()
}

// TestNearNames: names that differ in one byte, in their length or in the size of their letters are different ones.
func TestNearNames(t *testing.T) {
	long := strings.Repeat("x", 49)
	near := []string{"a", "A", "aa", "aaa", "b", "a ", " a", "a.", ".a", long, long + "x", long + "y", "y" + long, long[1:], "é", "e", "\xc3", "\xa9"}
	k := made(t, 600, 12)
	k.begin()
	var p plain
	for i, s := range near {
		for _, later := range near[i:] {
			k.noFind(0, later, api.ErrNone)
			k.remove(0, later, api.ErrNone)
			k.move(0, later, 5, api.ErrNone)
		}
		k.add(0, s, i, api.OK)
		p = p.add(s, i)
		k.holds(0, p)
	}
	for i, s := range near {
		k.move(0, s, 1000+i, api.OK)
		p = p.set(i, dir.Entry{Name: s, Inode: 1000 + i})
		k.holds(0, p)
	}
	for i, s := range near {
		k.remove(0, s, api.OK)
		p = p.set(i, dir.Entry{})
		k.holds(0, p)
	}
}
