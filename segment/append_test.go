package segment_test

import (
	"strings"
	"testing"

	"bollard/api"
	"bollard/batch"
	"bollard/segment"
)

// TestAppend: all that is told behind each Append, and what Open behind it reads.
func TestAppend(t *testing.T) {
	k := made(t, 400, 20)
	s, p := k.makes("/s", 5), plain{base: 5}
	for _, b := range row() {
		k.appends("P14.2", s, b, ok)
		p.l = append(p.l, b)
		k.is("P14.2", s, "/s", p)
		k.is("P14.1", k.opens("/s", 5), "/s", p)
		k.is("P14.1", mounted(t, k.d.Crash(nil)).opens("/s", 5), "/s", p)
	}
}

// TestAppendBehindOpen: each batch is appended to what Open reads.
func TestAppendBehindOpen(t *testing.T) {
	k := made(t, 400, 20)
	k.makes("/s", 5)
	p := plain{base: 5}
	for _, b := range row() {
		s := k.opens("/s", 5)
		k.is("P14.1", s, "/s", p)
		k.refused(s, "/s", p)
		k.appends("P14.2", s, b, p.append(b))
		k.is("P14.2", s, "/s", p)
		k = mounted(t, k.d)
	}
}

// wrongs are batches that chapter 13 refuses, whatever their Base is; by that error.
func wrongs(base int) map[api.Errno][]api.Batch {
	change := func(do func(b *api.Batch)) api.Batch {
		b := timed(base, 3, 1, 2, 3)
		do(&b)
		return b
	}
	long := strings.Repeat("x", api.MaxRecord)
	return map[api.Errno][]api.Batch{
		arg: {
			{Base: base}, timed(base, 0), timed(base, 1), timed(base, 0, 1), timed(base, 101, 1), timed(base, 2, 1, 2, 3), timed(base, most, 1),
			change(func(b *api.Batch) { b.Producer = -1 }),
			change(func(b *api.Batch) { b.Seq = -1 }),
			change(func(b *api.Batch) { b.Records[1].Off = 0 }),
			change(func(b *api.Batch) { b.Records[2].Off = 3 }),
			change(func(b *api.Batch) { b.Records[0].Off = -1 }),
			change(func(b *api.Batch) { b.Records[2].Time = -1 }),
			change(func(b *api.Batch) { b.Records[2].Time = last + 1 }),
			change(func(b *api.Batch) { b.Records[1].Key = "k" }),
		},
		big: {
			change(func(b *api.Batch) { b.Records[1].Val = long + "x" }),
			change(func(b *api.Batch) { b.Records[0].Val, b.Records[1].Val, b.Records[2].Val = long, long, long }),
		},
	}
}

// refused must be all that Append refuses, whatever it is made of: nothing has changed behind it.
func (k *kit) refused(s *segment.Segment, path string, p plain) {
	k.t.Helper()
	k.still("P14.2", "an Append that is refused", func() {
		k.t.Helper()
		for _, base := range []int{p.next(), p.next() + 9, max(0, p.next()-1), 0} {
			for e, l := range wrongs(base) {
				for _, b := range l {
					k.appends("P14.2", s, b, e)
				}
			}
		}
		for _, base := range wrongBases() {
			k.appends("P14.2", s, timed(base, 1, 1), arg)
		}
		for _, base := range []int{0, p.base - 1, p.next() / 2, p.next() - 1} {
			if base < p.next() && base >= 0 {
				k.appends("P14.2", s, timed(base, 1, 1), badSpot)
				k.appends("P14.2", s, timed(base, 100, 1, 2, 3), badSpot)
			}
		}
	})
	k.is("P14.2", s, path, p)
}

// TestAppendRefused: of no batches and of some, and the batch is taken behind it.
func TestAppendRefused(t *testing.T) {
	k := made(t, 400, 20)
	for _, base := range []int{0, 1, 5} {
		path := "/s" + strings.Repeat("x", base)
		s, p := k.makes(path, base), plain{base: base}
		k.refused(s, path, p)
		for _, b := range row() {
			k.appends("P14.2", s, b, p.append(b))
			k.refused(s, path, p)
		}
	}
}

// TestAppendBases: a Base just below Next, just Next, above it, and the greatest.
func TestAppendBases(t *testing.T) {
	k := made(t, 400, 20)
	s, p := k.makes("/s", 7), plain{base: 7}
	for _, x := range []struct {
		base, span int
		want       api.Errno
	}{
		{0, 1, badSpot}, {6, 100, badSpot}, {7, 1, ok}, {7, 1, badSpot}, {8, 2, ok}, {9, 1, badSpot}, {10, 100, ok}, {11, 1, badSpot}, {109, 1, badSpot}, {110, 3, ok},
		{1000, 1, ok}, {1 << 40, 5, ok}, {1<<40 + 4, 1, badSpot}, {1 << 40, 1, badSpot}, {last - 1, 1, ok}, {last - 1, 1, badSpot}, {last, 100, ok}, {last, 1, badSpot}, {last + 1, 1, arg}, {last + 100, 1, arg}, {0, 1, badSpot},
	} {
		b := timed(x.base, x.span, 3)
		k.appends("P14.2", s, b, x.want)
		if e := p.append(b); e != x.want {
			t.Fatalf("the test's own word of the Base %d is %d", x.base, e)
		}
		k.is("P14.2", s, "/s", p)
	}
	if s.Next() != last+100 {
		t.Errorf("P14.2: Next() = %d, want %d", s.Next(), last+100)
	}
	k.is("P14.1", k.opens("/s", 7), "/s", p)
}

// TestLast: the greatest Time, wherever it stands.
func TestLast(t *testing.T) {
	for _, x := range []struct {
		times [][]int
		want  int
	}{
		{nil, -1}, {[][]int{{0}}, 0}, {[][]int{{0, 0}, {0}}, 0}, {[][]int{{9, 8, 7}}, 9}, {[][]int{{7, 9, 8}}, 9}, {[][]int{{7, 8, 9}}, 9},
		{[][]int{{9}, {8}, {7}}, 9}, {[][]int{{7}, {9}, {8}}, 9}, {[][]int{{7}, {8}, {9}}, 9}, {[][]int{{1, last}, {last - 1}}, last}, {[][]int{{3, 1}, {2, 3}}, 3},
	} {
		k := made(t, 400, 20)
		s, p := k.makes("/s", 0), plain{base: 0}
		for _, times := range x.times {
			b := timed(s.Next(), len(times), times...)
			k.appends("P14.2", s, b, p.append(b))
		}
		if s.Last() != x.want || p.last() != x.want {
			t.Errorf("P14.2: Last() of %v = %d, want %d", x.times, s.Last(), x.want)
		}
		k.is("P14.1", k.opens("/s", 0), "/s", p)
	}
}

// TestAppendNoRoom: without room nothing happens, and what fits is taken.
func TestAppendNoRoom(t *testing.T) {
	k := made(t, 263, 8)
	s, p := k.makes("/s", 0), plain{base: 0}
	for {
		b := sized(t, s.Next(), 600)
		e := s.Append(b)
		if e == ok {
			p.append(b)
			continue
		}
		if e != full {
			t.Fatalf("P14.2: Append without room = %d, want ErrFull", e)
		}
		k.is("P14.2", s, "/s", p)
		k.still("P14.2", "an Append without room", func() {
			k.appends("P14.2", s, b, full)
			k.appends("P14.2", s, sized(t, s.Next(), 4000), full)
			k.appends("P14.2", s, timed(s.Next()-1, 1, 1), badSpot)
			k.appends("P14.2", s, timed(s.Next(), 0, 1), arg)
		})
		break
	}
	if len(p.l) < 2 {
		t.Fatalf("the test's own device had room for %d batches", len(p.l))
	}
	k.is("P14.2", s, "/s", p)
	free, _ := k.f.Free()
	left := (s.Size()+511)/512*512 - s.Size() + 512*free
	b := sized(t, s.Next()+3, left)
	k.appends("P14.2", s, b, p.append(b))
	k.is("P14.2", s, "/s", p)
	k.is("P14.1", k.opens("/s", 0), "/s", p)
}

// TestAppendTooGreatFile: a file has no more than MaxFile bytes.
func TestAppendTooGreatFile(t *testing.T) {
	k := made(t, 700, 20)
	s, p := k.makes("/s", 0), plain{base: 0}
	for range 17 {
		b := sized(t, s.Next(), 4055)
		k.appends("P14.2", s, b, p.append(b))
	}
	left := api.MaxFile - s.Size()
	k.still("P14.2", "an Append to a file that would be too great", func() {
		k.appends("P14.2", s, sized(t, s.Next(), left+1), big)
	})
	k.is("P14.2", s, "/s", p)
	b := sized(t, s.Next(), left)
	k.appends("P14.2", s, b, p.append(b))
	k.appends("P14.2", s, timed(s.Next(), 1, 1), big)
	k.is("P14.2", s, "/s", p)
	k.is("P14.1", k.opens("/s", 0), "/s", p)
}

// TestAppendGone: the file system's errors for a file that is not there any more.
func TestAppendGone(t *testing.T) {
	k := made(t, 400, 20)
	s, _ := k.full("/s")
	k.do(k.f.Remove("/s"))
	k.appends("P14.2", s, timed(300, 1, 1), none)
	k.appends("P14.2", s, timed(299, 1, 1), badSpot)
	k.do(k.f.Mkdir("/s"))
	k.appends("P14.2", s, timed(300, 1, 1), kind)
}

// TestAppendPowerGone: cut at each op, it is done wholly or not at all; what was told before is told still.
func TestAppendPowerGone(t *testing.T) {
	was, done := 0, 0
	for cut := 0; ; cut++ {
		k := made(t, 400, 20)
		s, p := k.full("/s")
		b := sized(t, 300, 1500)
		k.d.Cut(cut)
		e := s.Append(b)
		if e == ok {
			break
		}
		if e != off {
			t.Fatalf("P14.2: Append cut at op %d = %d, want ErrOff", cut, e)
		}
		k.appends("P14.2", s, b, off)
		k.appends("P14.2", s, timed(0, 1, 1), badSpot)
		k.appends("P14.2", s, timed(300, 0, 1), arg)
		for _, pick := range [][]int{nil, {1}, {0, 1}, {1, 1, 1, 1, 1, 1, 1, 1}} {
			again := mounted(t, k.d.Crash(pick))
			s := again.opens("/s", 5)
			q := p
			if s.Next() == 301 {
				q.l = append(copied(p.l), b)
				done++
			} else {
				was++
			}
			again.is("P14.2", s, "/s", q)
			again.goesOn("behind a crash", "/s", q)
		}
	}
	if was == 0 || done == 0 {
		t.Errorf("P14.2: the cuts left all %d times, nothing %d times", done, was)
	}
}

// TestAppendGreat: batches of as many bytes and records as there may be.
func TestAppendGreat(t *testing.T) {
	k := made(t, 700, 20)
	s, p := k.makes("/s", 0), plain{base: 0}
	long := strings.Repeat("x", api.MaxRecord)
	b := timed(0, 100, 1, 2, 3)
	b.Records[0].Val, b.Records[1].Val = long, long
	for batch.Check(b) == ok {
		b.Records[2].Val += "z"
	}
	k.appends("P14.2", s, b, big)
	b.Records[2].Val = b.Records[2].Val[1:]
	if n := len(laid(t, b)); n != api.MaxBatch {
		t.Fatalf("the test's own batch has %d bytes", n)
	}
	k.appends("P14.2", s, b, p.append(b))
	many := timed(s.Next(), 100, make([]int, 100)...)
	k.appends("P14.2", s, many, p.append(many))
	k.is("P14.2", s, "/s", p)
	k.is("P14.1", k.opens("/s", 0), "/s", p)
}
