package part_test

import (
	"fmt"
	"testing"

	"bollard/api"
	"bollard/part"
)

// segmented is a partition of several segments, each with several batches, whose times do not rise; keys come again in it, so that it can be compacted.
func (k *kit) segmented(s api.Settings) (*part.Part, *plain) {
	k.t.Helper()
	p, q := k.filled(s)
	x := dice(5)
	for i := range 14 {
		l := recs([]int{40, 3, 77, 20, 20, 0, 90, 4, 60}[i%9], "a=1", "-="+long(x.below(100)), fmt.Sprint("b", i%4, "=", long(x.below(200))))
		l[2].Time += i % 2
		k.appends("P15.2", p, q, i%3, i, l[i%3:])
	}
	if len(q.segs) < 4 || len(q.segs) > 12 {
		k.t.Fatalf("the test's own partition has %d segments", len(q.segs))
	}
	return p, q
}

// readsAll holds Read, at each offset and with each max that is an edge, and At against the plain one.
func (k *kit) readsAll(promise string, p *part.Part, q *plain) {
	k.t.Helper()
	for _, offset := range []int{least, -1, 0, q.start() - 1, q.next() + 1, q.next() + 100, most} {
		k.reads(promise, p, q, offset, 1)
		k.reads(promise, p, q, offset, 0)
	}
	for offset := q.start(); offset <= q.next(); offset++ {
		for _, max := range []int{least, -1, 0, 1, 2, 80, 512, 1000, most} {
			k.reads(promise, p, q, offset, max)
		}
		l, _ := q.read(offset, most)
		for i := range l {
			n := q.size(l[:i+1]...)
			for max := n - 1; max <= n+1; max++ {
				k.reads(promise, p, q, offset, max)
			}
		}
	}
	k.findsAll(promise, p, q)
}

// findsAll holds At against the plain one: below, at and above each time.
func (k *kit) findsAll(promise string, p *part.Part, q *plain) {
	k.t.Helper()
	for _, time := range []int{least, -2, -1, 0, 1, last, last + 1, most} {
		k.finds(promise, p, q, time)
	}
	for _, b := range q.all() {
		for _, r := range b.Records {
			for more := -1; more < 2; more++ {
				k.finds(promise, p, q, r.Time+more)
			}
		}
	}
}

// TestRead: over the ends of segments, as if they were one; with gaps, too.
func TestRead(t *testing.T) {
	k := made(t, 700, 40)
	p, q := k.segmented(kept(512))
	k.readsAll("P15.3", p, q)
	k.readsAll("P15.3", k.opens("/p", q.set), q)
	for k.compacts(p, q, 0) {
		k.readsAll("P15.3", p, q)
	}
	k.readsAll("P15.3", k.opens("/p", q.set), q)
	if len(q.all()) > 12 {
		t.Error("the test's own partition has no gaps")
	}
}

// TestReadEmpty: of a partition without batches, and of one whose first segments have none.
func TestReadEmpty(t *testing.T) {
	k := made(t, 700, 40)
	p, q := k.filled(kept(512))
	k.readsAll("P15.3", p, q)
	for i := range 5 {
		k.appends("P15.2", p, q, 0, 0, recs(3, "a="+long(300)))
		k.compacts(p, q, 0)
		k.readsAll("P15.3", p, q)
		if i == 4 && len(q.all()) != 1 {
			t.Errorf("P15.5: of five batches with the same key %d are left", len(q.all()))
		}
	}
	k.readsAll("P15.3", k.opens("/p", q.set), q)
}

// TestReadErrors: a max that may not be comes ahead of an offset that is not there.
func TestReadErrors(t *testing.T) {
	k := made(t, 700, 40)
	p, _ := k.filled(api.Settings{Segment: 512, Bytes: 0, Age: -1}, sized(t, 300), sized(t, 300))
	p.Retain(0)
	for _, x := range []struct {
		offset, max int
		want        api.Errno
	}{
		{0, 0, arg}, {1, 0, arg}, {3, 0, arg}, {1, -1, arg}, {least, least, arg}, {most, least, arg},
		{0, 1, badSpot}, {-1, 1, badSpot}, {3, 1, badSpot}, {least, most, badSpot}, {most, most, badSpot}, {1, 1, ok}, {2, 1, ok}, {2, most, ok},
	} {
		if l, e := p.Read(x.offset, x.max); e != x.want || e != ok && len(l) != 0 || x.offset == 2 && len(l) != 0 {
			t.Errorf("P15.3: Read(%d, %d) = %v %d, want %d", x.offset, x.max, shorts(l), e, x.want)
		}
	}
}

// TestReadFit: a batch behind one that does not fit is not told, even if it fits itself, in the same segment or in the next.
func TestReadFit(t *testing.T) {
	k := made(t, 700, 40)
	p, q := k.filled(kept(512), sized(t, 100), sized(t, 300), sized(t, 90), sized(t, 500), sized(t, 90), sized(t, 420), sized(t, 90))
	for max := 80; max < 1700; max++ {
		for offset := range 8 {
			k.reads("P15.3", p, q, offset, max)
		}
	}
}

// TestReadGreat: the first batch is told however great it is.
func TestReadGreat(t *testing.T) {
	k := made(t, 700, 40)
	p, q := k.filled(kept(512), sized(t, 4000), sized(t, 90), sized(t, 4000))
	for offset := range 4 {
		for _, max := range []int{1, 89, 90, 91, 3999, 4000, 4001, 4089, 4090, 4091, 8089, 8090, 8091, most} {
			k.reads("P15.3", p, q, offset, max)
		}
	}
}

// TestAt: times that do not rise, over the ends of segments.
func TestAt(t *testing.T) {
	k := made(t, 700, 40)
	p, q := k.filled(kept(512))
	k.findsAll("P15.3", p, q)
	for _, times := range [][]int{{5, 9, 7}, {3, 0, 12}, {8}, {30, 12, 2}, {last, 1}, {40, last}} {
		l := timed(times...)
		l[0].Val = long(250)
		k.appends("P15.2", p, q, 0, 0, l)
		k.findsAll("P15.3", p, q)
	}
	for time, want := range map[int]int{least: 0, 0: 0, 5: 0, 6: 1, 9: 1, 10: 5, 12: 5, 13: 7, 30: 7, 31: 10, last: 10, last + 1: 14, most: 14} {
		if at := p.At(time); at != want {
			t.Errorf("P15.3: At(%d) = %d, want %d", time, at, want)
		}
	}
	k.findsAll("P15.3", k.opens("/p", q.set), q)
}

// TestSegments: the bases, rising.
func TestSegments(t *testing.T) {
	k := made(t, 700, 40)
	p, q := k.segmented(api.Settings{Segment: 512, Bytes: 0, Age: -1})
	for {
		if fmt.Sprint(p.Segments()) != fmt.Sprint(q.bases()) || p.Start() != q.bases()[0] {
			t.Fatalf("P15.3: Segments() = %v, Start() = %d, want %v", p.Segments(), p.Start(), q.bases())
		}
		if !k.retains(p, q, 0) {
			return
		}
	}
}
