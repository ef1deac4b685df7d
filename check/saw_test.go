package check_test

import (
	"testing"

	"bollard/api"
	"bollard/check"
)

// TestExample is the chapter's.
func TestExample(t *testing.T) {
	l := check.New()
	if got := l.Saw("a", 0, 0, 2, 0, []api.Batch{bat(0, 2, 0, 0, rec("k", "v", 1), rec("l", "w", 2))}); got != 0 {
		t.Errorf("P24.1: Saw(a, 0, 0, 2, 0, a batch 0 of 2) = %d, want 0", got)
	}
	for _, b := range [][]api.Batch{nil, {}, {empty(0, 1)}, {empty(0, 2)}} {
		if got := l.Saw("a", 0, 0, 1, 0, b); got != 1 {
			t.Errorf("P24.1: Saw(a, 0, 0, 1, 0, %v) = %d, want 1", b, got)
		}
	}
}

// stocked is a Log that knows the offsets 2 to 9 of a log that begins at 3, and two producers.
func stocked(t *testing.T) *kit {
	t.Helper()
	return known(t, toldFrom(3, 3, 10,
		bat(2, 3, 7, 0, rec("k", "2", 5), rec("l", "3", 5), rec("m", "4", 6)),
		bat(5, 1, 8, 0, bare("5", 7)),
		bat(8, 2, 7, 1, rec("k", "8", 8), rec("k", "9", 8))))
}

// TestFallen: Start and Next never fall, and Start is not above Next.
func TestFallen(t *testing.T) {
	for _, one := range []struct {
		start, next, want int
	}{
		{3, 10, 0}, {4, 10, 0}, {3, 11, 0}, {4, 11, 0}, {10, 10, 0}, {11, 11, 0}, {most, most, 0},
		{2, 10, 1}, {3, 9, 1}, {2, 9, 1}, {0, 0, 1}, {4, 9, 1}, {9, 9, 1}, {2, 11, 1}, {2, most, 1}, {-1, 10, 1}, {least, most, 1}, {3, least, 1}, {3, 3, 1},
		{11, 10, 1}, {12, 11, 1}, {most, 10, 1}, {most, most - 1, 1},
	} {
		k := stocked(t)
		k.saw("P24.1", one.want, told(one.start, one.next))
		k.saw("P24.1", 0, fetch{"b", 0, 0, 0, 0, nil})
		if one.want != 0 {
			k.saw("P24.1", 0, told(3, 10))
		}
	}
}

// TestFirstBounds: of a partition that was not seen yet no Start and no Next is too small.
func TestFirstBounds(t *testing.T) {
	for _, one := range []struct {
		start, next, want int
	}{
		{0, 0, 0}, {0, 1, 0}, {5, 5, 0}, {5, 9, 0}, {most, most, 0}, {0, most, 0}, {-1, 0, 0}, {-5, -3, 0}, {-3, -3, 0}, {least, least, 0}, {least, most, 0}, {least, 0, 0},
		{1, 0, 1}, {0, -1, 1}, {-3, -5, 1}, {most, least, 1}, {most, 0, 1}, {0, least, 1}, {least + 1, least, 1}, {most, most - 1, 1},
	} {
		k := made(t)
		k.saw("P24.1", one.want, told(one.start, one.next))
		if one.want == 0 {
			k.saw("P24.1", 0, told(one.start, one.next))
			for _, below := range []int{one.start, one.next} {
				if below > least {
					k.saw("P24.1", 1, told(min(one.start, below-1), below-1))
				}
			}
		}
	}
}

// TestBoundsRise: each bound is held against what it was last, by itself.
func TestBoundsRise(t *testing.T) {
	k := made(t)
	for _, one := range []struct {
		start, next, want int
	}{
		{0, 5, 0}, {2, 5, 0}, {1, 9, 1}, {2, 9, 0}, {5, 8, 1}, {5, 9, 0}, {4, 100, 1}, {5, 100, 0}, {100, 100, 0}, {99, 100, 1}, {100, 99, 1}, {101, 100, 1}, {100, 100, 0}, {100, most, 0}, {most, most, 0}, {100, most, 1},
	} {
		k.saw("P24.1", one.want, told(one.start, one.next))
	}
}

// TestPlaces: each way in which a batch is where it may not be, told alone, and what is just right beside it.
func TestPlaces(t *testing.T) {
	for _, one := range []struct {
		what string
		want int
		f    fetch
	}{
		{"at from", 0, toldFrom(5, 0, 20, at(5, 2, "v"))},
		{"it reaches above from", 0, toldFrom(5, 0, 20, at(4, 2, "v"))},
		{"it reaches far above from", 0, toldFrom(5, 0, 20, at(1, 19, "v"))},
		{"it ends at from", 2, toldFrom(5, 0, 20, at(3, 2, "v"))},
		{"it ends below from", 2, toldFrom(5, 0, 20, at(3, 1, "v"))},
		{"it ends at from, the one behind does not", 2, toldFrom(5, 0, 20, at(3, 2, "v"), at(5, 1, "w"))},
		{"the second ends at from", 2, toldFrom(5, 0, 20, at(1, 2, "v"), at(3, 2, "w"))},
		{"no span, at from", 0, toldFrom(5, 0, 20, empty(5, 0))},
		{"a span below 0, at from", 0, toldFrom(5, 0, 20, empty(5, -3))},
		{"no span, below from", 2, toldFrom(5, 0, 20, empty(4, 0))},
		{"behind from", 0, toldFrom(5, 0, 20, at(6, 2, "v"))},
		{"a from below Start", 0, toldFrom(-7, 0, 20, at(0, 2, "v"))},
		{"a from above Next", 2, toldFrom(25, 0, 20, at(18, 2, "v"))},

		{"they rise", 0, told(0, 20, at(2, 2, "v"), at(4, 2, "w"), at(9, 1, "x"))},
		{"one Base, by which they overlap", 2, told(0, 20, at(2, 2, "v"), at(2, 3, "v"))},
		{"one Base, and the one ahead has no span", 2, told(0, 20, empty(2, 0), at(2, 2, "v"))},
		{"one Base, and the one ahead has a span below 0", 2, told(0, 20, empty(2, -1), at(2, 2, "v"))},
		{"they fall", 2, told(0, 20, at(4, 2, "v"), at(2, 1, "w"))},
		{"they fall, and the one ahead ends below", 2, told(0, 20, empty(9, -6), at(8, 1, "w"))},
		{"the last two fall", 2, told(0, 20, at(2, 1, "v"), at(6, 1, "w"), at(4, 1, "x"))},
		{"the last is as the first", 2, told(0, 20, at(2, 1, "v"), at(4, 1, "w"), at(2, 1, "v"))},

		{"they meet", 0, told(0, 20, at(2, 5, "v"), at(7, 2, "w"))},
		{"they overlap by one", 2, told(0, 20, at(2, 5, "v"), at(6, 2, "w"))},
		{"one is within the other", 2, told(0, 20, at(2, 9, "v"), at(4, 1, "w"))},
		{"the last two overlap", 2, told(0, 20, at(2, 1, "v"), at(3, 5, "w"), at(7, 1, "x"))},
		{"a span below 0 does not overlap", 0, told(0, 20, empty(9, -2), at(10, 2, "w"))},

		{"it ends at Next", 0, told(0, 20, at(18, 2, "v"))},
		{"it ends above Next", 2, told(0, 20, at(18, 3, "v"))},
		{"it begins at Next", 2, told(0, 20, at(20, 1, "v"))},
		{"it begins at Next, without a span", 0, told(0, 20, empty(20, 0))},
		{"it begins above Next, and ends at it", 0, told(0, 20, empty(22, -2))},
		{"the first of two ends above Next", 2, told(0, 20, at(3, 18, "v"), at(21, -1, "w"))},
		{"the last ends above Next", 2, told(0, 20, at(3, 1, "v"), at(18, 3, "w"))},

		{"it reaches above Start", 0, told(5, 20, at(4, 2, "v"))},
		{"it begins at Start", 0, told(5, 20, at(5, 1, "v"))},
		{"it ends at Start", 2, toldFrom(0, 5, 20, at(3, 2, "v"))},
		{"it ends below Start", 2, toldFrom(0, 5, 20, at(3, 1, "v"))},
		{"it begins at Start, without a span", 2, told(5, 20, empty(5, 0))},
		{"it ends at Start, the one behind does not", 2, toldFrom(0, 5, 20, at(3, 2, "v"), at(5, 1, "w"))},
		{"it begins above Start, and ends at it", 2, toldFrom(0, 5, 20, empty(7, -2))},
		{"the last ends at Start", 2, toldFrom(0, 5, 20, at(6, 1, "v"), empty(8, -3))},
	} {
		k := made(t)
		if got := k.sees("P24.1", one.f); got != one.want {
			t.Errorf("P24.1: %s: Saw(%s) = %d, want %d", one.what, short(one.f), got, one.want)
		}
	}
}

// TestFirstIsTold: of two at once the first is told, in whichever batches they are.
func TestFirstIsTold(t *testing.T) {
	unlike, like := bat(5, 1, 0, 0, bare("unlike", 7)), bat(5, 1, 8, 0, bare("5", 7))
	again := bat(6, 1, 7, 0, bare("new", 1))
	early := bat(4, 1, 7, 0, rec("m", "4", 6))
	both := bat(5, 1, 7, 0, bare("unlike", 7))
	for _, one := range []struct {
		what string
		want int
		f    fetch
	}{
		{"1 alone", 1, told(2, 10, like)},
		{"2 alone", 2, told(3, 10, like, like)},
		{"3 alone", 3, told(3, 10, unlike)},
		{"4 alone", 4, told(3, 10, again)},
		{"1 and 2", 1, told(2, 10, like, like)},
		{"1 by Next, and 2 by it", 1, told(3, 9, bat(8, 2, 7, 1))},
		{"1 by both, and 2 by each", 1, told(12, 11, like)},
		{"1 and 3", 1, told(2, 10, unlike)},
		{"1 and 4", 1, told(2, 10, again)},
		{"1, 2, 3 and 4", 1, told(2, 10, both, both)},
		{"2 behind 3", 2, told(3, 10, unlike, at(9, 2, "v"))},
		{"2 ahead of 3", 2, toldFrom(5, 3, 10, at(4, 1, "v"), unlike)},
		{"2 and 3 in one", 2, told(3, 10, bat(8, 3, 0, 0, bare("unlike", 7)))},
		{"2 behind 4", 2, told(3, 10, again, at(9, 2, "v"))},
		{"2 ahead of 4", 2, toldFrom(5, 3, 10, at(4, 1, "v"), again)},
		{"2 and 4 in one", 2, told(3, 10, bat(9, 2, 7, 0))},
		{"2, 3 and 4", 2, told(3, 10, both, both)},
		{"3 behind 4", 3, told(3, 10, early, unlike)},
		{"3 ahead of 4", 3, told(3, 10, unlike, again)},
		{"3 and 4 in one", 3, told(3, 10, both)},
		{"3 in the last record, behind 4", 3, told(3, 10, bat(4, 2, 7, 0, rec("m", "4", 6), bare("unlike", 7)))},
	} {
		k := stocked(t)
		if got := k.sees("P24.1", one.f); got != one.want {
			t.Errorf("P24.1: %s: Saw(%s) = %d, want %d", one.what, short(one.f), got, one.want)
		}
		k.saw("P24.1", 0, told(3, 10, like))
	}
}

// TestNothingInIt: fetches of no batches, batches of no records, and the same fetch again and again.
func TestNothingInIt(t *testing.T) {
	k := made(t)
	none, hollow := told(0, 9), told(0, 9, empty(0, 3), bat(3, 2, 7, 0), empty(5, 4))
	full := told(0, 9, at(0, 3, "v"), bat(3, 2, 7, 0, rec("k", "w", 1), rec("l", "x", 1)), bat(5, 4, 0, 0, bare("y", 2)))
	for range 3 {
		k.saw("P24.1", 0, none)
		k.saw("P24.1", 0, hollow)
		k.saw("P24.1", 0, fetch{"a", 0, 0, 9, most, nil})
		k.saw("P24.1", 0, fetch{"a", 0, 0, 9, least, []api.Batch{}})
	}
	k.saw("P24.1", 4, told(0, 9, bat(4, 2, 7, 0))) // a batch of no records is known, too
	for range 3 {
		k.saw("P24.1", 0, full)
		k.saw("P24.1", 0, hollow)
		k.saw("P24.1", 0, none)
	}
	k.saw("P24.1", 3, told(0, 9, at(0, 3, "w")))
	k.saw("P24.1", 0, full)
}

// TestNilAndZero: a zero Log is a new one, a nil one tells 0.
func TestNilAndZero(t *testing.T) {
	var none *check.Log
	for _, f := range []fetch{
		told(0, 9), told(9, 0), told(0, 1), told(0, 9, at(0, 1, "v")), told(0, 9, at(0, 1, "w")), told(0, 9, at(5, 5, "w")), told(0, 9, at(5, 1, "w"), at(5, 1, "w")),
		told(0, 9, bat(0, 1, 7, 0)), told(0, 9, bat(1, 1, 7, 0)), {}, {"", least, most, least, most, []api.Batch{{Base: most, Span: most}}},
	} {
		if got := none.Saw(f.topic, f.part, f.start, f.next, f.from, f.batches); got != 0 {
			t.Errorf("P24.1: of a nil Log Saw(%s) = %d, want 0", short(f), got)
		}
	}
	for _, first := range []fetch{told(0, 9), told(0, 9, at(0, 1, "v")), told(0, 9, bat(4, 1, 7, 0)), told(9, 0), told(0, 9, at(9, 1, "v")), told(-3, -1)} {
		k := &kit{t, &check.Log{}, &plain{}}
		k.sees("P24.1", first)
		k.saw("P24.1", 0, told(0, 9, at(0, 1, "v"), bat(4, 1, 7, 0)))
		k.saw("P24.1", 1, told(0, 8))
		k.saw("P24.1", 2, told(0, 9, at(9, 1, "v")))
		k.saw("P24.1", 3, told(0, 9, at(0, 1, "w")))
		k.saw("P24.1", 4, told(0, 9, bat(5, 1, 7, 0)))
		k.saw("P24.1", 0, told(0, 9, at(0, 1, "v"), bat(4, 1, 7, 0)))
	}
	var z check.Log
	if got := z.Saw("a", 0, 9, 0, 0, nil); got != 1 {
		t.Errorf("P24.1: of a zero Log Saw(start above next) = %d, want 1", got)
	}
}
