package part_test

import (
	"testing"

	"bollard/api"
	"bollard/part"
)

// steps are calls that each change something, in a row.
func steps(k *kit, p *part.Part, q *plain) []func() {
	return []func(){
		func() { k.appends("P15.2", p, q, 1, 2, timed(3)) },
		func() { k.appends("P15.2", p, q, 3, 4, recs(4, "a=5", "d="+long(400))) },
		func() { k.compacts(p, q, 0) },
		func() { k.retains(p, q, 0) },
		func() { k.compacts(p, q, 0) },
		func() { k.retains(p, q, 0) },
		func() { k.appends("P15.2", p, q, 1, 3, timed(3)) },
	}
}

// TestCommitted: what is done within a transaction is told within it, writes nothing, and stays.
func TestCommitted(t *testing.T) {
	s := api.Settings{Segment: 512, Bytes: 700, Age: -1}
	for n := range 8 {
		k := made(t, 700, 40)
		p, q := k.filled(s, sealedRows()...)
		was := q.clone()
		ops := k.d.Ops()
		k.do(k.f.Begin())
		for _, do := range steps(k, p, q)[:n] {
			do()
			k.is("P15.6", p, q)
			k.is("P15.1", k.opens("/p", s), q)
		}
		if k.d.Ops() != ops {
			t.Error("P15.2: within a transaction something was written")
		}
		fork := k.fork()
		fork.is("P15.6", fork.opens("/p", s), was)
		k.do(k.f.Commit())
		k.is("P15.6", p, q)
		k.again("P15.6", "/p", q)
		k.goesOn("P15.6", p, q)
	}
}

// TestAborted: Opened again, the partition is as it was.
func TestAborted(t *testing.T) {
	s := api.Settings{Segment: 512, Bytes: 700, Age: -1}
	for n := range 8 {
		k := made(t, 700, 40)
		p, q := k.filled(s, sealedRows()...)
		was := show(k.f)
		k.do(k.f.Begin())
		for _, do := range steps(k, p, q.clone())[:n] {
			do()
		}
		k.do(k.f.Abort())
		if now := show(k.f); now != was {
			t.Fatalf("P15.6: behind Abort the file system is\n%s\nwas\n%s", now, was)
		}
		k.again("P15.6", "/p", q)
		k.goesOn("P15.6", k.opens("/p", s), q)
	}
}

// TestMakeWithin: Make and Open are a part of a transaction that was begun.
func TestMakeWithin(t *testing.T) {
	k := made(t, 700, 40)
	was := show(k.f)
	for _, end := range []func() api.Errno{k.f.Abort, k.f.Commit} {
		k.do(k.f.Begin())
		p, q := k.filled(kept(512), sealedRows()...)
		k.is("P15.1", p, q)
		k.refused("/p", kept(512), exist, ok)
		k.refused("/p/q/r", kept(512), none, none)
		if show(k.fork().f) != was {
			t.Error("P15.1: Make within a transaction is there ahead of its end")
		}
		k.do(end())
		if _, e := k.f.Stat("/p"); e == ok {
			k.again("P15.6", "/p", q)
			return
		}
		if show(k.f) != was {
			t.Error("P15.6: behind Abort something is left of Make")
		}
	}
	t.Error("P15.6: what was committed is not there")
}

// TestMakeFullWithin: Make without room for its segment leaves a transaction as it was.
func TestMakeFullWithin(t *testing.T) {
	k := made(t, 250, 8) // one data block
	k.do(k.f.Begin(), k.f.Create("/x"))
	k.refused("/p", kept(512), full, none)
	k.do(k.f.Create("/y"), k.f.Commit())
	if l, _ := k.f.List("/"); len(l) != 2 {
		t.Errorf("P15.1: behind Make that is refused there are %q", l)
	}
}

// TestOpenWithin: what Open removes and cuts off within a transaction is there again, if that is aborted.
func TestOpenWithin(t *testing.T) {
	k := made(t, 700, 40)
	_, q := k.filled(kept(512), sealedRows()...)
	k.do(k.f.Create("/p/x.new"), k.f.Append("/p/00000000000000000000", []byte("torn")))
	was := show(k.f)
	k.do(k.f.Begin())
	k.is("P15.1", k.opens("/p", q.set), q)
	k.do(k.f.Abort())
	if show(k.f) != was {
		t.Error("P15.1: behind Abort what Open did is there")
	}
	k.do(k.f.Begin())
	k.is("P15.1", k.opens("/p", q.set), q)
	k.do(k.f.Commit())
	k.again("P15.1", "/p", q)
}

// TestRefusedWithin: what is refused leaves the transaction as it is, and it goes on.
func TestRefusedWithin(t *testing.T) {
	k := made(t, 700, 40)
	p, q := k.filled(kept(512), sealedRows()...)
	k.do(k.f.Begin())
	k.appends("P15.2", p, q, 0, 0, timed(1))
	for e, l := range wrongRecords() {
		k.refuses("P15.2", p, 0, 0, l[0], e)
	}
	k.do(k.f.Mkdir("/p/00000000000000000000.new"), k.f.Create("/p/00000000000000000000.new/x"))
	k.still("P15.5", "Compact that is refused", func() {
		if done, e := p.Compact(0); done || e != busy {
			t.Errorf("P15.5: Compact = %v %d, want false and ErrBusy", done, e)
		}
	})
	k.do(k.f.Remove("/p/00000000000000000000.new/x"), k.f.Remove("/p/00000000000000000000.new"))
	k.compacts(p, q, 0)
	k.do(k.f.Commit())
	k.again("P15.6", "/p", q)
}

// TestTooGreat: a transaction that is too great is aborted; Opened again, the partition is as it was.
func TestTooGreat(t *testing.T) {
	k := made(t, 700, 40)
	p, q := k.filled(kept(512), sealedRows()...)
	was := show(k.f)
	k.do(k.f.Begin())
	n := 0
	for e := ok; e == ok; n++ {
		if _, e = p.Append(0, 0, sized(t, 4000)); e != ok && e != big {
			t.Fatalf("P15.2: Append = %d, want ErrBig at last", e)
		}
	}
	if n < 2 || n > 9 {
		t.Fatalf("%d batches of 4000 bytes went into one transaction", n)
	}
	k.refuses("P15.2", p, 0, 0, timed(1), big)
	k.refuses("P15.2", p, 0, 0, sized(t, 4000), big)
	k.refuses("P15.2", p, 0, 0, nil, arg)
	k.refused("/new", kept(512), big, none)
	k.tells("P15.1", k.opens("/p", q.set), q)
	if done, e := k.opens("/p", q.set).Compact(0); done || e != big {
		t.Errorf("P15.5: Compact = %v %d, want ErrBig", done, e)
	}
	if gone, e := k.opens("/p", api.Settings{Segment: 512}).Retain(0); gone || e != big {
		t.Errorf("P15.4: Retain = %v %d, want ErrBig", gone, e)
	}
	if e := k.f.Commit(); e != big {
		t.Fatalf("P10.2: Commit = %d, want ErrBig", e)
	}
	if show(k.f) != was {
		t.Error("P15.6: a transaction that was too great left something")
	}
	k.again("P15.6", "/p", q)
	k.goesOn("P15.6", k.opens("/p", q.set), q)
}

// TestTooGreatCompact: Compact may be what a transaction has no room for.
func TestTooGreatCompact(t *testing.T) {
	k := made(t, 900, 40)
	p, q := k.makes("/p", kept(8192)), newPlain(t, kept(8192))
	for range 5 {
		k.appends("P15.2", p, q, 0, 0, recs(1, "a=1", "-="+long(1900), "-="+long(1900)))
	}
	k.do(k.f.Create("/x"), k.f.Begin(), k.f.Append("/x", make([]byte, 45*512)))
	if done, e := p.Compact(0); done || e != big {
		t.Fatalf("P15.5: Compact = %v %d, want ErrBig", done, e)
	}
	if e := k.f.Commit(); e != big {
		t.Fatalf("P10.2: Commit = %d, want ErrBig", e)
	}
	k.again("P15.5", "/p", q)
	p = k.opens("/p", q.set)
	k.compacts(p, q, 0)
	k.again("P15.5", "/p", q)
}

// TestNotOpenedAgain: a partition that should have been opened again ends each call all the same.
func TestNotOpenedAgain(t *testing.T) {
	s := api.Settings{Segment: 512, Bytes: 700, Age: -1}
	for n := range 8 {
		k := made(t, 700, 40)
		p, q := k.filled(s, sealedRows()...)
		k.do(k.f.Begin())
		for _, do := range steps(k, p, q)[:n] {
			do()
		}
		k.do(k.f.Abort())
		for range 3 {
			p.Read(p.Start(), most)
			p.Read(p.Next(), 1)
			p.At(0)
			p.Segments()
			p.Append(0, 0, timed(1))
			p.Append(0, 0, sized(t, 4000))
			p.Compact(most)
			p.Retain(most)
		}
	}
}

// TestNil: a nil and a zero Part, at each call and at all arguments.
func TestNil(t *testing.T) {
	for _, p := range []*part.Part{nil, {}, new(part.Part)} {
		for _, n := range []int{least, -1, 0, 1, most} {
			for _, l := range [][]api.Record{nil, timed(1), timed(-1)} {
				if base, e := p.Append(n, n, l); base != 0 || e != off {
					t.Errorf("P15.6: Append(%d) = %d %d, want 0 and ErrOff", n, base, e)
				}
			}
			if gone, e := p.Retain(n); gone || e != off {
				t.Errorf("P15.6: Retain(%d) = %v %d, want false and ErrOff", n, gone, e)
			}
			if done, e := p.Compact(n); done || e != off {
				t.Errorf("P15.6: Compact(%d) = %v %d, want false and ErrOff", n, done, e)
			}
			for _, max := range []int{least, -1, 0, 1, most} {
				if l, e := p.Read(n, max); len(l) != 0 || e != badSpot {
					t.Errorf("P15.6: Read(%d, %d) = %v %d, want ErrRange", n, max, l, e)
				}
			}
			if at := p.At(n); at != 0 {
				t.Errorf("P15.6: At(%d) = %d", n, at)
			}
		}
		if p.Start() != 0 || p.Next() != 0 || len(p.Segments()) != 0 || p.Dir() != "" {
			t.Errorf("P15.6: %d %d %v %q", p.Start(), p.Next(), p.Segments(), p.Dir())
		}
	}
}
