package producers_test

import (
	"testing"

	"bollard/api"
	"bollard/device"
	"bollard/fs"
	"bollard/producers"
)

// mountOff mounts a device that is cut: it answers OK or ErrOff.
func mountOff(t *testing.T, d *device.Device) {
	t.Helper()
	if _, e := fs.Mount(d); e != ok && e != off {
		t.Fatalf("P10.6: Mount that is cut = %d", e)
	}
}

// some accepts a row of them: new ones, known ones, and one that is refused.
func (k *kit) some(p *producers.Producers, q plain) {
	k.t.Helper()
	for _, x := range [][3]int{{7, 0, 5}, {100, 1, 2000}, {7, 1, 6}, {8, 3, 9}, {0, 0, 0}, {100, 2, 2001}, {101, 0, -1}, {most, most, end}} {
		k.accepts("P16.3", p, q, x[0], x[1], x[2])
	}
}

// TestCommitted: what is accepted within a transaction is known within it, writes nothing, and stays.
func TestCommitted(t *testing.T) {
	for _, n := range []int{0, 1, 20, 55} {
		k := made(t, 400, 20)
		p, q := k.knows("/p", n)
		was, ops := q.clone(), k.d.Ops()
		k.do(k.f.Begin())
		k.some(p, q)
		k.is("P16.3", p, q)
		k.is("P16.1", k.opens("/p"), q)
		if k.d.Ops() != ops {
			t.Error("P16.3: within a transaction something was written")
		}
		fork := k.fork()
		fork.is("P16.3", fork.opens("/p"), was)
		k.do(k.f.Commit())
		k.is("P16.3", p, q)
		k.again("P16.3", "/p", q)
		k.goesOn("P16.3", "/p", q)
	}
}

// TestAborted: Opened again, those who were known are, as they were.
func TestAborted(t *testing.T) {
	for _, n := range []int{0, 1, 20, 55} {
		k := made(t, 400, 20)
		p, q := k.knows("/p", n)
		was := show(k.f)
		k.do(k.f.Begin())
		k.some(p, q.clone())
		k.do(k.f.Abort())
		if now := show(k.f); now != was {
			t.Fatalf("P16.3: behind Abort the file system is\n%s\nwas\n%s", now, was)
		}
		k.again("P16.3", "/p", q)
		k.goesOn("P16.3", "/p", q)
	}
}

// TestMakeWithin: Make is a part of a transaction that was begun.
func TestMakeWithin(t *testing.T) {
	k := made(t, 400, 20)
	was := show(k.f)
	for _, end := range []func() api.Errno{k.f.Abort, k.f.Commit} {
		k.do(k.f.Begin())
		p, q := k.knows("/p", 3)
		k.some(p, q)
		k.is("P16.3", p, q)
		k.refused("/p", exist, ok)
		k.refused("/q/r", none, none)
		if show(k.fork().f) != was {
			t.Error("P16.1: Make within a transaction is there ahead of its end")
		}
		k.do(end())
		if _, e := k.f.Stat("/p"); e == ok {
			k.again("P16.3", "/p", q)
			return
		}
		if show(k.f) != was {
			t.Error("P16.1: behind Abort something is left of Make")
		}
	}
	t.Error("P16.3: what was committed is not there")
}

// TestRefusedWithin: what is refused leaves the transaction as it is, and it goes on.
func TestRefusedWithin(t *testing.T) {
	k := made(t, 400, 40)
	p, q := k.knows("/p", 0)
	k.fillUp()
	k.do(k.f.Begin(), k.f.Create("/y"))
	k.refuses("P16.3", p, q, 7, 0, 0, full)
	k.refuses("P16.3", p, q, 7, 0, -1, arg)
	k.do(k.f.Remove("/fill0"))
	k.some(p, q)
	k.do(k.f.Commit())
	k.is("P16.3", p, q)
	k.again("P16.3", "/p", q)
	if s, e := k.f.Stat("/y"); s.Kind != 1 || e != ok {
		t.Errorf("P16.3: what was done ahead of an Accept that was refused is %v %d", s, e)
	}
}

// grows writes so many blocks, each by a call of its own; false: the transaction that was begun has no room for them.
func (k *kit) grows(blocks int) bool {
	k.t.Helper()
	for range blocks {
		switch e := k.f.Append("/great", make([]byte, api.Block)); e {
		case ok:
		case big:
			return false
		default:
			k.t.Fatalf("Append = %d", e)
		}
	}
	return true
}

// TestTooGreat: a transaction that is too great is aborted; Opened again, those who were known are, as they were.
func TestTooGreat(t *testing.T) {
	for _, n := range []int{0, 1, 59} {
		for _, commit := range []bool{false, true} {
			k := made(t, 700, 20)
			p, q := k.knows("/p", n)
			k.do(k.f.Create("/great"))
			was := show(k.f)
			k.do(k.f.Begin(), p.Accept(7, 0, 5))
			if k.grows(api.SlotData) {
				t.Fatal("P10.2: no transaction is too great")
			}
			k.fails(big, p.Accept(7, 1, 6), p.Accept(8, 0, 0))
			k.fails(arg, p.Accept(0, 0, 0))
			p = k.opens("/p")
			k.refuses("P16.3", p, q, 100, 1, 1, big)
			k.refused("/new", big, none)
			if commit {
				k.fails(big, k.f.Commit())
			} else {
				k.do(k.f.Abort())
			}
			if now := show(k.f); now != was {
				t.Fatalf("P16.3: behind a transaction that was too great the file system is\n%s\nwas\n%s", now, was)
			}
			k.again("P16.3", "/p", q)
			k.goesOn("P16.3", "/p", q)
		}
	}
}

// TestAcceptTooGreat: an Accept for which a transaction has no room is refused, and aborts it.
func TestAcceptTooGreat(t *testing.T) {
	seen := map[api.Errno]int{}
	for blocks := range api.SlotData {
		k := made(t, 700, 20)
		p, q := k.knows("/p", 2)
		k.do(k.f.Create("/great"), k.f.Begin())
		if !k.grows(blocks) {
			break
		}
		e := p.Accept(7, 0, 0)
		seen[e]++
		switch e {
		case ok:
			k.do(k.f.Commit(), q.accept(7, 0, 0))
		case big:
			k.is("P16.3", p, q)
			k.fails(big, k.f.Commit())
		default:
			t.Fatalf("P16.3: Accept = %d, want ErrBig at last", e)
		}
		k.again("P16.3", "/p", q)
		k.goesOn("P16.3", "/p", q)
	}
	if seen[ok] == 0 || seen[big] == 0 {
		t.Errorf("P16.3: what Accept answered was %v times", seen)
	}
}

// TestTransactionPower: a transaction that the power cuts off is there wholly or not at all, with all else that it did.
func TestTransactionPower(t *testing.T) {
	old := made(t, 400, 20)
	_, was := old.knows("/p", 20)
	old.do(old.f.Create("/log"))
	is := was.clone()
	old.some(old.fork().opens("/p"), is)
	law(t, old, was, is, func(k *kit) api.Errno {
		p, q := k.opens("/p"), was.clone()
		k.do(k.f.Begin(), k.f.Append("/log", []byte("a batch")))
		k.some(p, q)
		return k.f.Commit()
	})
}

// TestNotOpenedAgain: one that should have been Opened again ends each call all the same.
func TestNotOpenedAgain(t *testing.T) {
	for _, n := range []int{0, 1, 58, 60} {
		k := made(t, 400, 20)
		p, _ := k.knows("/p", n)
		k.do(k.f.Begin())
		p.Accept(7, 0, 5)
		p.Accept(8, 0, 5)
		k.do(k.f.Abort())
		for range 2 {
			for _, producer := range []int{7, 8, 9, 100, 0} {
				p.Check(producer, 1)
				p.Accept(producer, 1, 6)
				p.Accept(producer, -1, 6)
			}
		}
		if p.Len() > room {
			t.Errorf("P16.3: Len() = %d", p.Len())
		}
	}
}

// TestOff: a nil and a zero one, with numbers that may not be, too.
func TestOff(t *testing.T) {
	var nobody *producers.Producers
	for _, p := range []*producers.Producers{nobody, {}} {
		for _, producer := range edges() {
			for _, seq := range edges() {
				if base, again, e := p.Check(producer, seq); base != 0 || again || e != off {
					t.Fatalf("P16.3: Check(%d, %d) of none = %d %v %d, want ErrOff", producer, seq, base, again, e)
				}
				for _, base := range edges() {
					if e := p.Accept(producer, seq, base); e != off {
						t.Fatalf("P16.3: Accept(%d, %d, %d) of none = %d, want ErrOff", producer, seq, base, e)
					}
				}
			}
		}
		if n := p.Len(); n != 0 {
			t.Errorf("P16.3: Len() of none = %d", n)
		}
	}
}
