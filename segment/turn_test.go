package segment_test

import (
	"testing"

	"bollard/segment"
)

// TestCommitted: what is appended within a transaction is told within it, and stays.
func TestCommitted(t *testing.T) {
	k := made(t, 400, 20)
	k.do(k.f.Begin())
	s, p := k.full("/s")
	k.is("P14.2", s, "/s", p)
	k.is("P14.1", k.opens("/s", 5), "/s", p)
	k.do(k.f.Commit())
	k.is("P14.4", s, "/s", p)
	k.refused(s, "/s", p)
	k.goesOn("behind Commit", "/s", p)
	p.append(timed(300, 2, 77))
	k.is("P14.1", mounted(t, k.d.Crash(nil)).opens("/s", 5), "/s", p)
}

// TestRefusedWithin: an Append that is refused leaves the transaction as it is.
func TestRefusedWithin(t *testing.T) {
	k := made(t, 400, 20)
	k.do(k.f.Begin())
	s, p := k.full("/s")
	k.refused(s, "/s", p)
	k.goesOn("within", "/s", p)
	p.append(timed(300, 2, 77))
	k.refuses("/s", 5, exist, ok)
	k.refuses("/s", -1, arg, arg)
	k.do(k.f.Commit())
	k.is("P14.4", k.opens("/s", 5), "/s", p)
}

// TestAborted: Opened again, it is as it was.
func TestAborted(t *testing.T) {
	k := made(t, 400, 20)
	s, p := k.full("/s")
	k.do(k.f.Begin(), s.Append(timed(300, 1, 99)), s.Append(sized(t, 301, 4000)))
	k.is("P14.2", s, "/s", plain{5, append(copied(p.l), timed(300, 1, 99), sized(t, 301, 4000))})
	k.do(k.f.Abort())
	k.is("P14.4", k.opens("/s", 5), "/s", p)
	k.goesOn("behind Abort", "/s", p)
}

// TestAbortedMake: a segment that was made within is not there.
func TestAbortedMake(t *testing.T) {
	k := made(t, 400, 20)
	k.do(k.f.Begin())
	s, _ := k.full("/s")
	k.do(k.f.Abort())
	k.refuses("/s", 5, ok, none)
	k.appends("P14.4", s, timed(300, 1, 1), none)
	k.is("P14.1", k.makes("/s", 5), "/s", plain{base: 5})
}

// TestAbortedOpen: what Open cut off within is there again.
func TestAbortedOpen(t *testing.T) {
	k := made(t, 400, 20)
	l := row()
	k.lay("/s", append(laid(t, l...), "tail"...))
	k.do(k.f.Begin())
	k.is("P14.1", k.opens("/s", 5), "/s", plain{5, l})
	k.is("P14.1", k.opens("/s", 6), "/s", plain{base: 6})
	k.do(k.f.Abort())
	if n := len(k.bytes("/s")); n != len(laid(t, l...))+4 {
		t.Errorf("P14.1: behind Abort the file has %d bytes", n)
	}
	k.is("P14.1", k.opens("/s", 5), "/s", plain{5, l})
}

// TestTooGreat: a transaction that is too great is aborted: Append and Open answer ErrBig, and Opened again it is as it was.
func TestTooGreat(t *testing.T) {
	k := made(t, 700, 20)
	s, p := k.full("/s")
	k.lay("/tail", append(laid(t, p.l...), 1))
	k.do(k.f.Begin())
	n := 0
	for s.Append(sized(t, s.Next(), 4000)) == ok {
		n++
	}
	if n < 2 || n > 17 {
		t.Fatalf("%d batches of 4000 bytes went into one transaction", n)
	}
	k.appends("P14.2", s, timed(s.Next(), 1, 1), big)
	k.appends("P14.2", s, timed(s.Next()-1, 1, 1), badSpot)
	k.refuses("/new", 5, big, none)
	k.refuses("/tail", 5, big, big)
	if e := k.f.Commit(); e != big {
		t.Fatalf("P10.2: Commit = %d, want ErrBig", e)
	}
	k.is("P14.4", k.opens("/s", 5), "/s", p)
	k.goesOn("behind a transaction that was too great", "/s", p)
}

// TestCutCommit: a transaction that the power cuts off is there wholly or not at all.
func TestCutCommit(t *testing.T) {
	was, done := 0, 0
	for cut := 0; ; cut++ {
		k := made(t, 400, 20)
		s, p := k.full("/s")
		k.do(k.f.Begin(), s.Append(timed(300, 1, 99)))
		fresh := k.makes("/new", 9)
		k.do(fresh.Append(timed(12, 1, 3)))
		k.d.Cut(cut)
		e := k.f.Commit()
		if e == ok {
			break
		}
		if e != off {
			t.Fatalf("P10.2: Commit cut at op %d = %d", cut, e)
		}
		k.appends("P14.4", s, timed(400, 1, 1), off)
		again := mounted(t, k.d.Crash([]int{cut % 2, 1, 1}))
		if _, e := again.f.Stat("/new"); e == ok {
			done++
			p.append(timed(300, 1, 99))
			q := plain{base: 9}
			q.append(timed(12, 1, 3))
			again.is("P14.4", again.opens("/new", 9), "/new", q)
		} else {
			was++
		}
		again.is("P14.4", again.opens("/s", 5), "/s", p)
	}
	if was == 0 || done == 0 {
		t.Errorf("P14.4: the cuts left all %d times, nothing %d times", done, was)
	}
}

// TestNotOpenedAgain: a segment that should have been opened again ends each call all the same.
func TestNotOpenedAgain(t *testing.T) {
	k := made(t, 400, 20)
	s, _ := k.full("/s")
	for _, undo := range []func() *segment.Segment{
		func() *segment.Segment {
			k.do(k.f.Begin(), s.Append(sized(t, 300, 3000)), k.f.Abort())
			return s
		},
		func() *segment.Segment {
			k.do(k.f.Begin())
			n, _ := k.full("/new")
			k.do(k.f.Abort())
			return n
		},
	} {
		s := undo()
		s.All()
		s.Read(0, most)
		s.At(0)
		s.Append(timed(1000, 1, 1))
		s.Append(timed(0, 1, 1))
		s.All()
	}
}
