package part_test

import (
	"testing"

	"bollard/api"
)

// TestRetainBytes: just, one below and one above what the sealed segments have.
func TestRetainBytes(t *testing.T) {
	for _, bytes := range []int{-1, 0, 1, 299, 300, 301, 399, 400, 401, 699, 700, 701, 1099, 1100, 1101, 1 << 40} {
		k := made(t, 700, 40)
		s := api.Settings{Segment: 512, Bytes: bytes, Age: -1}
		p, q := k.filled(s, sized(t, 400), sized(t, 400), sized(t, 300), sized(t, 500))
		for range 5 {
			k.retains(p, q, most)
			k.is("P15.4", p, q)
			k.readsAll("P15.4", p, q)
			k.again("P15.4", "/p", q)
		}
		want := map[bool]int{true: 4, false: 1}[bytes == -1 || bytes >= 1100]
		if bytes >= 300 && bytes < 700 {
			want = 2
		} else if bytes >= 700 && bytes < 1100 {
			want = 3
		}
		if n := len(p.Segments()); n != want {
			t.Errorf("P15.4: with Bytes %d Retain left %d segments, want %d", bytes, n, want)
		}
	}
}

// TestRetainAge: a now of just, and one more than, Age above the first segment's greatest time, wherever that stands in it.
func TestRetainAge(t *testing.T) {
	for _, age := range []int{-1, 0, 1, 5, 1000, last} {
		for _, old := range [][]int{{7}, {0}, {9, 7, 8}, {3, 9}, {last}} {
			newest := 0
			for _, time := range old {
				newest = max(newest, time)
			}
			for _, now := range []int{least, -1, 0, newest + age - 1, newest + age, newest + age + 1, most} {
				k := made(t, 700, 40)
				s := api.Settings{Segment: 512, Bytes: -1, Age: age}
				first := timed(old...)
				first[0].Val = long(300)
				p, q := k.filled(s, first, sized(t, 400), timed(5))
				for i := range 3 {
					want := i == 0 && age != -1 && now > newest+age || i > 0 && q.clone().retain(now)
					if gone := k.retains(p, q, now); gone != want {
						t.Fatalf("P15.4: Age %d, times %v: Retain(%d) = %v", age, old, now, gone)
					}
					k.is("P15.4", p, q)
				}
				k.again("P15.4", "/p", q)
			}
		}
	}
}

// TestRetainEmpty: of an Age that is not -1 a first segment without batches goes, whatever now is; of Bytes alone it does not.
func TestRetainEmpty(t *testing.T) {
	for _, s := range []api.Settings{
		{Segment: 512, Bytes: -1, Age: -1}, {Segment: 512, Bytes: 399, Age: -1}, {Segment: 512, Bytes: 400, Age: -1}, {Segment: 512, Bytes: -1, Age: 0}, {Segment: 512, Bytes: -1, Age: last}, {Segment: 512, Bytes: 1 << 40, Age: last},
	} {
		for _, now := range []int{least, -1, 0, most} {
			k := made(t, 700, 40)
			p, q := k.filled(s, sized(t, 400), sized(t, 400), sized(t, 300)) // the first two have the same key
			k.compacts(p, q, 0)
			if len(q.segs[0].l) != 0 {
				t.Fatal("the test's own first segment has batches")
			}
			if n := q.size(q.segs[1].l...); n != 400 {
				t.Fatalf("the test's own second segment has %d bytes", n)
			}
			for range 3 {
				k.retains(p, q, now)
				k.is("P15.4", p, q)
				k.again("P15.4", "/p", q)
			}
		}
	}
}

// TestRetainActive: the active segment never goes, however great or old it is, empty or not.
func TestRetainActive(t *testing.T) {
	for _, s := range []api.Settings{{Segment: 512}, {Segment: 512, Bytes: -1}, {Segment: 512, Age: -1}} {
		k := made(t, 700, 40)
		p, q := k.filled(s)
		for _, now := range []int{least, 0, 1, most} {
			k.still("P15.4", "Retain of the active segment", func() { k.retains(p, q, now) })
		}
		k.appends("P15.2", p, q, 0, 0, sized(t, 4000))
		for _, now := range []int{least, 0, 1, most} {
			k.still("P15.4", "Retain of the active segment", func() { k.retains(p, q, now) })
		}
		k.is("P15.4", p, q)
	}
}

// TestRetainUntil: until it tells false, with what is told behind each; then it goes on.
func TestRetainUntil(t *testing.T) {
	for _, s := range []api.Settings{{Segment: 512, Bytes: 0, Age: -1}, {Segment: 512, Bytes: 600, Age: 50}, {Segment: 512, Bytes: -1, Age: 20}} {
		k := made(t, 700, 40)
		p, q := k.segmented(s)
		for round := range 3 {
			for k.retains(p, q, 60+round) {
				k.is("P15.4", p, q)
				k.readsAll("P15.4", p, q)
				k.again("P15.4", "/p", q)
			}
			k.still("P15.4", "Retain with nothing to do", func() { k.retains(p, q, 60+round) })
			k.appends("P15.2", p, q, 0, 0, sized(t, 450))
		}
		k.again("P15.4", "/p", q)
	}
}

// TestRetainGone: the file system's error where the file is gone already; nothing has changed.
func TestRetainGone(t *testing.T) {
	k := made(t, 700, 40)
	p, q := k.filled(api.Settings{Segment: 512, Bytes: 0, Age: -1}, sized(t, 400), sized(t, 400))
	k.do(k.f.Rename("/p/00000000000000000000", "/there"))
	k.still("P15.4", "Retain that is refused", func() {
		if gone, e := p.Retain(0); gone || e != none {
			t.Errorf("P15.4: Retain of a file that is not there = %v %d, want false and ErrNone", gone, e)
		}
	})
	k.do(k.f.Rename("/there", "/p/00000000000000000000"))
	k.is("P15.4", p, q)
	k.retains(p, q, 0)
	k.again("P15.4", "/p", q)
}
