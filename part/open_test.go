package part_test

import (
	"fmt"
	"testing"

	"bollard/api"
	"bollard/part"
	"bollard/segment"
)

// others are names in a partition's directory that are none of a segment.
func others() []string {
	return []string{
		"zz", "1", "0", "producers", ".neW", "new", "0000000000000000000", "000000000000000000000", "0000000000000000000x", "-0000000000000000000", "+0000000000000000005",
		"0000000000_000000000", " 0000000000000000005", "0x000000000000000005", "99999999999999999999", "00001125899906842625", "09223372036854775807", "09223372036854775808", "18446744073709551616",
		"00000000000000000000.newer", "00000000000000000000 new", "\xd9\xa0\xd9\xa0\xd9\xa0\xd9\xa0\xd9\xa0\xd9\xa0\xd9\xa0\xd9\xa0\xd9\xa0\xd9\xa0",
	}
}

// TestOpenOthers: other names are not looked at, files or directories.
func TestOpenOthers(t *testing.T) {
	k := made(t, 700, 90)
	_, q := k.filled(kept(512), sized(t, 300), sized(t, 300))
	for i, name := range others() {
		k.lay("/p/"+name, []byte("bytes"))
		k.do(k.f.Rename("/p/"+name, "/there"), k.f.Mkdir("/p/"+name), k.f.Create("/p/"+name+"/00000000000000000007"))
		k.still("P15.1", "Open with a directory "+name, func() { k.tells("P15.1", k.opens("/p", q.set), q) })
		k.do(k.f.Remove("/p/"+name+"/00000000000000000007"), k.f.Remove("/p/"+name), k.f.Rename("/there", "/p/"+name))
		k.still("P15.1", "Open with a file "+name, func() { k.tells("P15.1", k.opens("/p", q.set), q) })
		if l, _ := k.f.List("/p"); len(l) != 2+i+1 {
			t.Fatalf("P15.1: Open left %q", l)
		}
	}
}

// TestOpenDirectory: a directory is no segment, even if its name is one's.
func TestOpenDirectory(t *testing.T) {
	for _, name := range []string{"00000000000000000000", "00000000000000000001", "00000000000000000005", "00001125899906842624"} {
		k := made(t, 700, 40)
		p, q := k.filled(kept(512), sized(t, 300), sized(t, 300))
		k.f.Remove("/p/" + name)
		if name == "00000000000000000000" {
			q.segs = q.segs[1:]
		} else if name == "00000000000000000001" {
			q.segs = q.segs[:1]
		}
		k.do(k.f.Mkdir("/p/"+name), k.f.Create("/p/"+name+"/x"))
		k.still("P15.1", "Open with a directory "+name, func() {
			p = k.opens("/p", q.set)
			k.tells("P15.1", p, q)
		})
		if name == "00000000000000000001" {
			k.refuses("P15.2", p, 0, 0, sized(t, 400), exist) // the place of the next segment is taken
			k.tells("P15.2", p, q)
			k.appends("P15.2", p, q, 0, 0, sized(t, 100))
		} else {
			k.appends("P15.2", p, q, 0, 0, sized(t, 400))
		}
		k.tells("P15.2", p, q)
		k.do(k.f.Remove("/p/"+name+"/x"), k.f.Remove("/p/"+name))
		k.again("P15.1", "/p", q)
	}
}

// TestOpenNone: a directory without segments is none, whatever else it holds; what would be removed is there still.
func TestOpenNone(t *testing.T) {
	k := made(t, 700, 90)
	k.do(k.f.Mkdir("/p"))
	k.refused("/p", kept(512), exist, bad)
	for _, name := range others() {
		k.lay("/p/"+name, []byte("bytes"))
		k.refused("/p", kept(512), exist, bad)
	}
	k.do(k.f.Mkdir("/p/00000000000000000005"), k.f.Create("/p/00000000000000000000.new"), k.f.Mkdir("/p/x.new"))
	k.refused("/p", kept(512), exist, bad)
	k.do(k.f.Create("/p/x.new/y"))
	k.refused("/p", kept(512), exist, busy)
}

// TestOpenNew: names that end in `.new` are gone behind Open.
func TestOpenNew(t *testing.T) {
	k := made(t, 700, 40)
	_, q := k.filled(kept(512), sized(t, 300), sized(t, 300))
	free, inodes := k.f.Free()
	for _, name := range []string{"00000000000000000000.new", "00000000000000000001.new", "00000000000000000009.new", ".new", "x.new", "new.new", ".new.new", "\x01.new", "~.new"} {
		k.lay("/p/"+name, make([]byte, 2000))
		k.is("P15.1", k.opens("/p", q.set), q)
		k.do(k.f.Mkdir("/p/" + name))
		k.is("P15.1", k.opens("/p", q.set), q)
	}
	k.lay("/p/a.new", make([]byte, 9000))
	k.lay("/p/00000000000000000000.new", laid(t, q.all()...))
	k.do(k.f.Mkdir("/p/z.new"), k.f.Create("/p/z"))
	k.tells("P15.1", k.opens("/p", q.set), q)
	k.do(k.f.Remove("/p/z"))
	k.again("P15.1", "/p", q)
	if b, i := k.f.Free(); b != free || i != inodes {
		t.Errorf("P15.1: Open left %d blocks and %d inodes free, of %d and %d", b, i, free, inodes)
	}
}

// TestOpenNewBusy: what can't be removed is told, and nothing else is removed or cut off then.
func TestOpenNewBusy(t *testing.T) {
	k := made(t, 700, 40)
	_, q := k.filled(kept(512), sized(t, 300), sized(t, 300))
	k.do(k.f.Create("/p/.new"), k.f.Append("/p/00000000000000000000", []byte("torn")), k.f.Mkdir("/p/y.new"), k.f.Create("/p/y.new/x"), k.f.Create("/p/z.new"))
	k.refused("/p", q.set, exist, busy)
	k.do(k.f.Begin(), k.f.Create("/p/a.new"))
	k.refused("/p", q.set, exist, busy)
	k.do(k.f.Commit(), k.f.Remove("/p/y.new/x"))
	k.again("P15.1", "/p", q)
}

// TestOpenTorn: what stands behind the batches of a segment is cut off, in each segment.
func TestOpenTorn(t *testing.T) {
	for _, tail := range [][]byte{{0}, []byte("torn"), make([]byte, 600), laid(t, fresh(t, 0, 0, 0, timed(1)))} {
		k := made(t, 700, 40)
		_, q := k.filled(kept(512), sized(t, 300), sized(t, 300), sized(t, 300), sized(t, 90))
		for _, name := range []string{"00000000000000000000", "00000000000000000001", "00000000000000000002"} {
			k.do(k.f.Append("/p/"+name, tail))
			k.again("P15.1", "/p", q)
		}
		for _, name := range []string{"00000000000000000000", "00000000000000000001", "00000000000000000002"} {
			k.do(k.f.Append("/p/"+name, tail))
		}
		k.again("P15.1", "/p", q)
	}
}

// TestOpenCutOff: the last bytes of the last batch are lost: the batch is, too.
func TestOpenCutOff(t *testing.T) {
	k := made(t, 700, 40)
	_, q := k.filled(kept(512), sized(t, 300), sized(t, 300), sized(t, 90))
	k.do(k.f.Truncate("/p/00000000000000000001", 389))
	q.segs[1].l = q.segs[1].l[:1]
	k.again("P15.1", "/p", q)
	p := k.opens("/p", q.set)
	k.appends("P15.2", p, q, 0, 0, sized(t, 100))
	k.do(k.f.Truncate("/p/00000000000000000000", 7), k.f.Truncate("/p/00000000000000000001", 0))
	q.segs[0].l, q.segs[1].l = nil, nil
	k.again("P15.1", "/p", q)
	p = k.opens("/p", q.set)
	k.reads("P15.3", p, q, 0, most)
	k.reads("P15.3", p, q, 1, most)
	k.appends("P15.2", p, q, 0, 0, sized(t, 700))
	k.again("P15.1", "/p", q)
}

// TestOpenFromNames: each segment is read from its name on: a batch ahead of that is none of it.
func TestOpenFromNames(t *testing.T) {
	k := made(t, 700, 40)
	k.do(k.f.Mkdir("/p"))
	q := &plain{t, kept(512), nil}
	for _, x := range []struct{ base, first int }{{3, 5}, {10, 10}, {12, 11}, {1 << 50, 1 << 50}} {
		b := fresh(t, x.first, 1, 2, timed(4, 5))
		k.lay(fmt.Sprintf("/p/%020d", x.base), laid(t, b))
		s := seg{base: x.base}
		if x.first >= x.base {
			s.l = []api.Batch{b}
		}
		q.segs = append(q.segs, s)
	}
	k.again("P15.1", "/p", q)
	p := k.opens("/p", q.set)
	k.refuses("P15.2", p, 0, 0, timed(1), arg) // there are no further offsets
}

// TestOpenRoot: the root may be a partition's directory.
func TestOpenRoot(t *testing.T) {
	k := made(t, 700, 40)
	if _, e := segment.Make(k.f, "/00000000000000000003", 3); e != ok {
		t.Fatalf("P14.1: Make = %d", e)
	}
	k.do(k.f.Create("/x.new"))
	q := &plain{t, api.Settings{Segment: 512, Bytes: 300, Age: -1}, []seg{{base: 3}}}
	p := k.opens("/", q.set)
	k.is("P15.1", p, q)
	for range 3 {
		k.appends("P15.2", p, q, 0, 0, recs(1, "a=1", "b="+long(250)))
		k.is("P15.2", p, q)
	}
	k.compacts(p, q, 0)
	k.is("P15.5", p, q)
	k.retains(p, q, 0)
	k.is("P15.4", p, q)
	k.again("P15.1", "/", q)
	if p.Dir() != "/" {
		t.Errorf("P15.1: Dir() = %q", p.Dir())
	}
}

// TestOpenDeep: a directory so deep that no path leads to what it holds.
func TestOpenDeep(t *testing.T) {
	k := made(t, 700, 40)
	k.makes("/p", kept(512))
	for i := range 7 {
		k.do(k.f.Mkdir("/d/d/d/d/d/d/d"[:2*i+2]))
	}
	k.do(k.f.Rename("/p", "/d/d/d/d/d/d/d/p"))
	k.refused("/d/d/d/d/d/d/d/p", kept(512), exist, arg)
	k.do(k.f.Rename("/d/d/d/d/d/d/d/p", "/d/d/d/d/d/d/p"))
	k.again("P15.1", "/d/d/d/d/d/d/p", newPlain(t, kept(512)))
}

// TestOpenWrites nothing where there is nothing to remove or to cut off: on a device that is off, too.
func TestOpenWrites(t *testing.T) {
	k := made(t, 700, 40)
	_, q := k.filled(kept(512), sized(t, 300), sized(t, 300))
	k.d.Cut(0)
	k.still("P15.1", "Open", func() { k.is("P15.1", k.opens("/p", q.set), q) })
	if _, e := k.opens("/p", q.set).Append(0, 0, timed(1)); e != off {
		t.Fatalf("P15.2: Append on a device that is off = %d, want ErrOff", e)
	}
	for range 2 { // the file system is dead now
		k.still("P15.1", "Open on a dead file system", func() { k.is("P15.1", k.opens("/p", q.set), q) })
		k.refused("/", q.set, off, bad)
		k.refused("/q", q.set, off, none)
	}
	torn := k.fork()
	torn.do(torn.f.Append("/p/00000000000000000000", []byte("torn")))
	torn.dies()
	torn.refused("/p", q.set, off, off)
	torn.refused("/q", q.set, off, none)
	fresh := k.fork()
	fresh.do(fresh.f.Create("/p/x.new"))
	fresh.dies()
	fresh.refused("/p", q.set, off, off)
	if _, e := part.Open(fresh.f, "/p", kept(0)); e != arg {
		t.Errorf("P15.1: Open with settings that may not be, on a dead file system = %d, want ErrArg", e)
	}
}

// dies lets the power go, and the file system find out.
func (k *kit) dies() {
	k.t.Helper()
	k.d.Cut(0)
	if e := k.f.Mkdir("/dead"); e != off {
		k.t.Fatalf("P10.2: Mkdir on a device that is off = %d", e)
	}
}

// TestOpenSettings: the settings are those of Open, whatever Make's were.
func TestOpenSettings(t *testing.T) {
	k := made(t, 700, 40)
	_, q := k.filled(kept(512), sized(t, 300), sized(t, 300))
	q.set = kept(2000)
	p := k.opens("/p", q.set)
	for range 7 {
		k.appends("P15.2", p, q, 0, 0, sized(t, 400))
		k.is("P15.2", p, q)
	}
	q.set = api.Settings{Segment: 512, Bytes: 700, Age: -1}
	p = k.opens("/p", q.set)
	k.retains(p, q, 0)
	k.is("P15.4", p, q)
}

// TestOpenPower: cut at each op, nothing is told of a partition; behind the crash it is the same one.
func TestOpenPower(t *testing.T) {
	old := made(t, 700, 40)
	_, q := old.filled(kept(512), sized(t, 300), sized(t, 300))
	old.do(old.f.Create("/p/a.new"), old.f.Append("/p/00000000000000000001", []byte("torn")), old.f.Append("/p/00000000000000000000", []byte("torn")))
	for cut := 0; ; cut++ {
		k := old.fork()
		k.d.Cut(cut)
		p, e := part.Open(k.f, "/p", q.set)
		if e == ok {
			k.is("P15.1", p, q)
			return
		}
		if p != nil || e != off {
			t.Fatalf("P15.1: Open cut at op %d = %v %d, want ErrOff", cut, p, e)
		}
		for _, pick := range picks() {
			mounted(t, k.d.Crash(pick)).again("P15.1", "/p", q)
		}
	}
}
