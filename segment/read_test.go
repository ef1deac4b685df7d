package segment_test

import (
	"testing"

	"bollard/api"
	"bollard/segment"
)

// twice does something with a segment that was appended to, and with one that was opened.
func twice(t *testing.T, do func(k *kit, s *segment.Segment, p plain)) {
	t.Helper()
	k := made(t, 400, 20)
	s, p := k.full("/s")
	do(k, s, p)
	do(k, k.opens("/s", 5), p)
}

// sums are the bytes of one or several batches in a row, each with one less and one more.
func sums(t *testing.T, l []api.Batch) (out []int) {
	t.Helper()
	for i := range l {
		for j := i; j < len(l); j++ {
			n := len(laid(t, l[i:j+1]...))
			out = append(out, n-1, n, n+1)
		}
	}
	return out
}

// TestRead: at each offset, with all that max may be.
func TestRead(t *testing.T) {
	twice(t, func(k *kit, s *segment.Segment, p plain) {
		maxes := append(sums(t, p.l), least, least+1, -1000, -1, 0, 1, 10, 52, 6000, 70656, most-1, most)
		for offset := -3; offset < 310; offset++ {
			for _, max := range maxes {
				k.reads("P14.3", s, p, offset, max)
			}
		}
		for _, offset := range []int{least, least + 1, -last, last, last + 1, most - 1, most} {
			for _, max := range maxes {
				k.reads("P14.3", s, p, offset, max)
			}
		}
	})
}

// TestReadTold: what Read answers, by the batches' Bases.
func TestReadTold(t *testing.T) {
	twice(t, func(k *kit, s *segment.Segment, p plain) {
		size := func(from, to int) int { return len(laid(t, p.l[from:to]...)) }
		for _, x := range []struct {
			offset, max int
			bases       []int
		}{
			{least, 1, []int{5}}, {0, 1, []int{5}}, {5, 1, []int{5}}, {6, 1, []int{5}}, {7, 1, []int{9}}, {8, 1, []int{9}}, {9, 1, []int{9}}, {10, 1, []int{10}}, {12, 1, []int{10}},
			{13, 1, []int{13}}, {17, 1, []int{200}}, {199, 1, []int{200}}, {201, 1, []int{200}}, {299, 1, []int{200}}, {300, 1, nil}, {301, most, nil}, {most, most, nil},
			{5, least, []int{5}}, {5, 0, []int{5}}, {5, size(0, 1), []int{5}}, {5, size(0, 2) - 1, []int{5}}, {5, size(0, 2), []int{5, 9}}, {5, size(0, 2) + 1, []int{5, 9}},
			{5, size(0, 5) - 1, []int{5, 9, 10, 13}}, {5, size(0, 5), []int{5, 9, 10, 13, 200}}, {5, most, []int{5, 9, 10, 13, 200}},
			{7, size(1, 3), []int{9, 10}}, {7, size(1, 3) - 1, []int{9}}, {13, size(3, 5), []int{13, 200}}, {299, most, []int{200}},
		} {
			var want []api.Batch
			for _, b := range p.l {
				for _, base := range x.bases {
					if b.Base == base {
						want = append(want, b)
					}
				}
			}
			if l := s.Read(x.offset, x.max); !same(l, want) {
				t.Errorf("P14.3: Read(%d, %d) = %v, want %v", x.offset, x.max, shorts(l), shorts(want))
			}
		}
	})
}

// TestReadSmallBehindGreat: behind a batch that is too great none is told, though it would fit.
func TestReadSmallBehindGreat(t *testing.T) {
	k := made(t, 400, 20)
	s, p := k.makes("/s", 0), plain{base: 0}
	for i, n := range []int{80, 3000, 80, 90, 4055, 100} {
		b := sized(t, i, n)
		k.appends("P14.2", s, b, p.append(b))
	}
	for offset := range 8 {
		for _, max := range append(sums(t, p.l), 0, 79, 160, 3080) {
			k.reads("P14.3", s, p, offset, max)
		}
	}
	if l := s.Read(0, 200); len(l) != 1 {
		t.Errorf("P14.3: Read(0, 200) = %v, want the first one", shorts(l))
	}
	if l := s.Read(1, 200); len(l) != 1 {
		t.Errorf("P14.3: Read(1, 200) = %v, want the second one", shorts(l))
	}
}

// TestReadEmpty: nothing of a segment without batches.
func TestReadEmpty(t *testing.T) {
	k := made(t, 400, 20)
	for _, s := range []*segment.Segment{k.makes("/s", 5), k.opens("/s", 5)} {
		for _, offset := range []int{least, -1, 0, 4, 5, 6, last, most} {
			for _, max := range []int{least, 0, 1, most} {
				k.reads("P14.3", s, plain{base: 5}, offset, max)
			}
			k.finds("P14.3", s, plain{base: 5}, offset)
		}
	}
}

// TestAt: each time that there is, and those beside it.
func TestAt(t *testing.T) {
	twice(t, func(k *kit, s *segment.Segment, p plain) {
		for time := -5; time < 60; time++ {
			k.finds("P14.3", s, p, time)
		}
		for _, time := range []int{least, least + 1, -last, last, last + 1, most} {
			k.finds("P14.3", s, p, time)
		}
		for _, x := range []struct {
			time, at int
			found    bool
		}{{least, 5, true}, {-1, 5, true}, {0, 5, true}, {20, 5, true}, {30, 5, true}, {31, 12, true}, {40, 12, true}, {41, 14, true}, {42, 0, false}, {last, 0, false}, {most, 0, false}} {
			if at, found := s.At(x.time); at != x.at || found != x.found {
				t.Errorf("P14.3: At(%d) = %d %v, want %d %v", x.time, at, found, x.at, x.found)
			}
		}
	})
}

// TestAtRising: times that rise, within batches and from one to the next, and the greatest.
func TestAtRising(t *testing.T) {
	k := made(t, 400, 20)
	s, p := k.makes("/s", 100), plain{base: 100}
	for _, b := range []api.Batch{timed(100, 3, 0, 10, 20), timed(110, 2, 30, 30), timed(last, 100, 40, last)} {
		k.appends("P14.2", s, b, p.append(b))
	}
	for time := -1; time < 50; time++ {
		k.finds("P14.3", s, p, time)
	}
	for _, time := range []int{last - 1, last, last + 1, most, least} {
		k.finds("P14.3", s, p, time)
	}
	if at, found := s.At(last); at != last+1 || !found {
		t.Errorf("P14.3: At(%d) = %d %v, want %d", last, at, found, last+1)
	}
}

// TestLooksChangeNothing: who reads writes nothing.
func TestLooksChangeNothing(t *testing.T) {
	twice(t, func(k *kit, s *segment.Segment, p plain) {
		k.still("P14.3", "a look", func() {
			for offset := range 20 {
				s.Read(offset, offset*40)
				s.At(offset * 3)
			}
			k.tells("P14.3", s, p)
		})
	})
}
