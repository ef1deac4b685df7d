package broker_test

import (
	"fmt"
	"testing"

	"bollard/api"
	"bollard/broker"
	"bollard/catalog"
	"bollard/fs"
	"bollard/groups"
)

// TestFormat: a broker without topics: an empty catalog of 17 and no offsets of 18, by one transaction, and nothing else.
func TestFormat(t *testing.T) {
	k := made(t, 600, 60)
	k.again("P21.1")
	if l, _ := k.f.List("/"); fmt.Sprint(l) != "[offsets topics]" {
		t.Errorf("P21.1: the names are %q", l)
	}
	c, e := catalog.Open(k.f, "/topics")
	g, code := groups.Open(k.f, "/offsets")
	if e != ok || code != ok || len(c.List()) != 0 || g.Len() != 0 {
		t.Errorf("P21.1: a catalog of %v, %d, and %d offsets, %d", c.List(), e, g.Len(), code)
	}
	twin := empty(t, 600, 60)
	twin.do(catalog.Make(twin.f, "/topics"), groups.Make(twin.f, "/offsets"))
	k.same("P21.1", "Format", k.raw("/"), twin.raw("/"))
	k.asks("P21.2", 0, topics())
	k.goesOn("P21.1")
}

// formatFails must be an error of Format, with which nothing changes.
func (k *kit) formatFails(want api.Errno) {
	k.t.Helper()
	k.still("P21.1", "Format that is refused", func() {
		k.t.Helper()
		if e := broker.Format(k.f); e != want {
			k.t.Fatalf("P21.1: Format = %d, want %d", e, want)
		}
	})
}

// openFails must be an error of Open, with which nothing changes.
func (k *kit) openFails(want api.Errno) {
	k.t.Helper()
	k.still("P21.1", "Open that is refused", func() {
		k.t.Helper()
		if b, e := broker.Open(k.f); b != nil || e != want {
			k.t.Fatalf("P21.1: Open = %v %d, want %d", b, e, want)
		}
	})
}

// TestFormatExists: where either name is taken, by whatever, Format is refused and makes neither.
func TestFormatExists(t *testing.T) {
	for i, make := range []func(f *fs.FS) api.Errno{
		func(f *fs.FS) api.Errno { return f.Mkdir("/topics") },
		func(f *fs.FS) api.Errno { return f.Mkdir("/offsets") },
		func(f *fs.FS) api.Errno { return f.Create("/topics") },
		func(f *fs.FS) api.Errno { return f.Create("/offsets") },
		func(f *fs.FS) api.Errno { return catalog.Make(f, "/topics") },
		func(f *fs.FS) api.Errno { return groups.Make(f, "/offsets") },
	} {
		k := empty(t, 600, 60)
		k.do(make(k.f))
		k.formatFails(exist)
		if l, _ := k.f.List("/"); len(l) != 1 {
			t.Errorf("P21.1: case %d: there are %q", i, l)
		}
	}
	k := stock(t, 900, 100)
	k.formatFails(exist)
	k.formatFails(exist)
	k.again("P21.1")
	k.goesOn("P21.1")
}

// TestFormatFull: without room nothing is made; with just enough all is.
func TestFormatFull(t *testing.T) {
	seen := map[api.Errno]int{}
	for left := range 12 {
		k := empty(t, 600, 60)
		k.leaves(left)
		e := k.formats(full)
		if seen[e]++; e == ok && seen[full] == 0 {
			t.Errorf("P21.1: Format takes no blocks")
		}
	}
	for left := range 8 {
		k := empty(t, 600, 60)
		k.leavesInodes(left)
		e := k.formats(full)
		if want := left < 4; want != (e == full) {
			t.Errorf("P21.1: with %d inodes Format = %d", left, e)
		}
	}
	if seen[ok] == 0 || seen[full] == 0 {
		t.Errorf("P21.1: Format was OK %d times, without room %d times", seen[ok], seen[full])
	}
}

// formats is Format, wholly or not at all; it may be refused with that error.
func (k *kit) formats(may api.Errno) api.Errno {
	k.t.Helper()
	was := k.raw("/")
	e := broker.Format(k.f)
	switch e {
	case ok:
		k.opens()
		k.again("P21.1")
	case may:
		k.same("P21.1", "Format that is refused", k.raw("/"), was)
		k.openFails(none)
	default:
		k.t.Fatalf("P21.1: Format = %d, want OK or %d", e, may)
	}
	return e
}

// TestFormatWithin: Format is a part of a transaction that was begun.
func TestFormatWithin(t *testing.T) {
	k := empty(t, 600, 60)
	was := k.raw("/")
	k.do(k.f.Begin(), broker.Format(k.f), k.f.Abort())
	k.same("P21.1", "Format and Abort", k.raw("/"), was)
	k.do(k.f.Begin(), broker.Format(k.f), k.f.Commit())
	k.opens()
	k.again("P21.1")
}

// TestOpenNone: without a broker, or with one half of it.
func TestOpenNone(t *testing.T) {
	for _, x := range []struct {
		want api.Errno
		make func(f *fs.FS) api.Errno
	}{
		{none, func(f *fs.FS) api.Errno { return ok }},
		{none, func(f *fs.FS) api.Errno { return f.Create("/other") }},
		{none, func(f *fs.FS) api.Errno { return catalog.Make(f, "/topics") }},
		{none, func(f *fs.FS) api.Errno { return groups.Make(f, "/offsets") }},
		{bad, func(f *fs.FS) api.Errno { return f.Mkdir("/topics") }},
		{kind, func(f *fs.FS) api.Errno { return f.Create("/topics") }},
	} {
		k := empty(t, 600, 60)
		k.do(x.make(k.f))
		k.openFails(x.want)
	}
}

// TestOpenSpoilt: of a broker with something in it, each part that a broker needs is taken away or written over.
func TestOpenSpoilt(t *testing.T) {
	old := stock(t, 900, 100)
	for _, x := range []struct {
		want  api.Errno
		spoil func(f *fs.FS) []api.Errno
	}{
		{none, func(f *fs.FS) []api.Errno { return []api.Errno{f.Rename("/topics", "/t")} }},
		{none, func(f *fs.FS) []api.Errno { return []api.Errno{f.Rename("/offsets", "/o")} }},
		{kind, func(f *fs.FS) []api.Errno { return []api.Errno{f.Rename("/topics", "/t"), f.Create("/topics")} }},
		{kind, func(f *fs.FS) []api.Errno { return []api.Errno{f.Rename("/offsets", "/o"), f.Create("/offsets")} }},
		{bad, func(f *fs.FS) []api.Errno { return []api.Errno{f.Rename("/topics", "/t"), f.Mkdir("/topics")} }},
		{bad, func(f *fs.FS) []api.Errno { return []api.Errno{f.Rename("/offsets", "/o"), f.Mkdir("/offsets")} }},
		{bad, func(f *fs.FS) []api.Errno { return []api.Errno{f.Truncate("/topics/catalog", 0)} }},
		{bad, func(f *fs.FS) []api.Errno { return []api.Errno{f.Append("/topics/catalog", []byte{0})} }},
		{bad, func(f *fs.FS) []api.Errno { return []api.Errno{f.Write("/topics/catalog", 0, []byte("a/b"))} }},
		{bad, func(f *fs.FS) []api.Errno { return []api.Errno{f.Remove("/topics/catalog")} }},
		{bad, func(f *fs.FS) []api.Errno {
			return []api.Errno{f.Rename("/topics/t3-0/00000000000000000000", "/offsets/00000000000000000000")}
		}},
		{bad, func(f *fs.FS) []api.Errno { return []api.Errno{f.Remove("/offsets/00000000000000000000")} }},
		{none, func(f *fs.FS) []api.Errno { return []api.Errno{f.Rename("/topics/t2-1", "/p")} }},
		{none, func(f *fs.FS) []api.Errno { return []api.Errno{f.Remove("/topics/t4-0/producers")} }},
		{bad, func(f *fs.FS) []api.Errno { return []api.Errno{f.Append("/topics/t2-0/producers", []byte{1})} }},
		{bad, func(f *fs.FS) []api.Errno { return []api.Errno{f.Remove("/topics/t2-1/00000000000000000000")} }},
	} {
		k := old.fork()
		// What could be mended stands there, too: Open that is refused leaves it.
		k.do(k.f.Create("/topics/t2-0/x.new"), k.f.Append("/topics/t3-0/00000000000000000004", []byte("torn")))
		k.do(x.spoil(k.f)...)
		k.openFails(x.want)
	}
}

// TestOpenMends: what 15 removes and cuts off goes, and nothing else.
func TestOpenMends(t *testing.T) {
	k := stock(t, 900, 100)
	// The names' slots stay: they are there first.
	k.do(k.f.Create("/topics/t2-0/x.new"), k.f.Create("/offsets/00000000000000000000.new"), k.f.Remove("/topics/t2-0/x.new"), k.f.Remove("/offsets/00000000000000000000.new"))
	was := k.raw("/")
	k.do(k.f.Create("/topics/t2-0/x.new"), k.f.Create("/offsets/00000000000000000000.new"), k.f.Append("/topics/t3-0/00000000000000000004", []byte("torn")))
	k.opens()
	k.same("P21.1", "Open that mends", k.raw("/"), was)
	k.again("P21.1")
	k.goesOn("P21.1")
}

// TestOpenOthers: other files beside a broker are not looked at, and stay.
func TestOpenOthers(t *testing.T) {
	k := stock(t, 900, 100)
	k.do(k.f.Create("/other"), k.f.Append("/other", []byte("text")), k.f.Mkdir("/topics/mine"), k.f.Create("/topics/t1"), k.f.Create("/offsets/mine"))
	others := func() string {
		return k.raw("/other") + k.raw("/topics/mine") + k.raw("/topics/t1") + k.raw("/offsets/mine")
	}
	was := others()
	k.q.left["mine"] = nil // Sweep must not take it: it is taken back below
	k.opens()
	k.is("P21.1")
	delete(k.q.left, "mine")
	for more := true; more; {
		more = k.sweeps("P21.3")
	}
	k.same("P21.3", "Sweep", others(), was)
}

// TestOpenNil: a file system that is none, or that was off ahead.
func TestOpenNil(t *testing.T) {
	for _, f := range []*fs.FS{nil, {}} {
		if b, e := broker.Open(f); b != nil || e != off {
			t.Errorf("P21.1: Open of no file system = %v %d, want ErrOff", b, e)
		}
		if e := broker.Format(f); e != off {
			t.Errorf("P21.1: Format of no file system = %d, want ErrOff", e)
		}
	}
	k := stock(t, 900, 100)
	k.d.Cut(0)
	if e := k.f.Create("/x"); e != off {
		t.Fatalf("P10.2: Create = %d", e)
	}
	k.isOff("P21.2")
	if b, e := broker.Open(k.f); b != nil || e != off {
		t.Errorf("P21.1: Open of a dead file system = %v %d, want ErrOff", b, e)
	}
	if e := broker.Format(k.f); e != off {
		t.Errorf("P21.1: Format of a dead file system = %d, want ErrOff", e)
	}
}

// TestApart: brokers on devices of their own have nothing in common.
func TestApart(t *testing.T) {
	a, b := stock(t, 900, 100), made(t, 900, 100)
	b.asks("P21.2", 0, create("a", 1, thins()), add("a", 0, 7, 0, rec("k", "v", 0)))
	a.asks("P21.2", 0, add("a", 0, 7, 6, rec("k", "v", 0)), remove("c"))
	a.again("P21.1")
	b.again("P21.1")
}
