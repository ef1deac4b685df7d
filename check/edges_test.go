package check_test

import (
	"testing"

	"bollard/api"
	"bollard/check"
)

// edges are numbers at which sums wrap round, or begin to.
func edges() []int {
	return []int{least, least + 1, -1, 0, 1, most - 1, most}
}

// TestEdges: each argument and each number of a batch at the edges of int.
func TestEdges(t *testing.T) {
	for _, start := range edges() {
		for _, next := range edges() {
			for _, from := range edges() {
				for _, base := range edges() {
					for _, span := range edges() {
						made(t).sees("P24.1", toldFrom(from, start, next, empty(base, span)))
					}
				}
			}
		}
	}
}

// TestEdgesOfTwo: so those of a batch and of the one ahead of it.
func TestEdgesOfTwo(t *testing.T) {
	right := 0
	for _, base := range edges() {
		for _, span := range edges() {
			for _, second := range edges() {
				for _, other := range edges() {
					if made(t).sees("P24.1", toldFrom(least, least, most, empty(base, span), empty(second, other))) == 0 {
						right++
					}
				}
			}
		}
	}
	if right == 0 {
		t.Errorf("P24.1: no two batches at the edges are right")
	}
}

// TestSumsDoNotWrap: some of these by hand.
func TestSumsDoNotWrap(t *testing.T) {
	for _, one := range []struct {
		want int
		f    fetch
	}{
		{0, told(0, most, empty(most, 0))},
		{0, told(0, most, empty(most-1, 1))},
		{0, told(least, most, empty(least, most))},
		{0, told(least, most, empty(most, least))}, // it ends at -1
		{0, told(-2, most, empty(most, least))},
		{2, told(-1, most, empty(most, least))},
		{2, told(0, most, empty(most, 1))},
		{2, told(least, most, empty(most, 1))},
		{2, told(least, most, empty(1, most))},
		{2, told(least, most, empty(most, most))},
		{2, told(least, most, empty(least, least))},
		{2, told(least, most, empty(least, -1))},
		{2, told(least, most, empty(-1, least))},
		{2, told(least, most, empty(least, 0))},
		{0, told(least, most, empty(least, 1))},
		{2, toldFrom(most, 0, most, empty(most-1, 1))},
		{0, toldFrom(most, 0, most, empty(most, 0))},
		{2, toldFrom(most, 0, most, empty(0, most))},
		{0, toldFrom(most-1, 0, most, empty(0, most))},
		{2, told(least, most, empty(most-2, 2), empty(most-1, 1))},
		{0, told(least, most, empty(most-2, 1), empty(most-1, 1))},
	} {
		made(t).saw("P24.1", one.want, one.f)
	}
}

// edged is a fetch of a record at an offset that may be beyond all ints.
func edged(base, off int, r api.Record) fetch {
	span := 1
	if base == most {
		span = 0
	}
	return told(least, most, api.Batch{Base: base, Span: span, Records: []api.Record{placed(r, off)}})
}

// TestOffsetsDoNotWrap: the offset of a record is a sum, too: two of them are one offset only if their sums are the same.
func TestOffsetsDoNotWrap(t *testing.T) {
	alike := 0
	for _, base := range edges() {
		for _, off := range edges() {
			k := known(t, edged(base, off, rec("k", "v", 1)))
			for _, second := range edges() {
				for _, other := range edges() {
					want := 0
					if sum(base, off).Cmp(sum(second, other)) == 0 {
						want = 3
						alike++
					}
					l := check.New()
					for i, f := range []fetch{edged(base, off, rec("k", "v", 1)), edged(second, other, rec("k", "w", 1))} {
						if got := l.Saw(f.topic, f.part, f.start, f.next, f.from, f.batches); got != i*want {
							t.Fatalf("P24.1: behind %d and %d Saw(%s) = %d, want %d", base, off, short(f), got, i*want)
						}
					}
					if want == 3 {
						k.saw("P24.1", 3, edged(second, other, rec("k", "w", 1)))
						k.saw("P24.1", 0, edged(second, other, rec("k", "v", 1)))
					}
				}
			}
		}
	}
	if alike <= len(edges())*len(edges()) {
		t.Errorf("P24.1: no two unlike pairs have one sum")
	}
}

// TestOffsetsOfOneBatch: so within one batch.
func TestOffsetsOfOneBatch(t *testing.T) {
	for _, base := range edges() {
		for i, off := range edges() {
			for j, other := range edges() {
				f := edged(base, off, rec("k", "v", 1))
				f.batches[0].Records = append(f.batches[0].Records, placed(rec("k", "w", 1), other))
				want := 0
				if i == j {
					want = 3
				}
				made(t).saw("P24.1", want, f)
			}
		}
	}
}

// TestBasesAtEdges: so the Bases of producers' batches.
func TestBasesAtEdges(t *testing.T) {
	for _, base := range edges() {
		for _, second := range edges() {
			k := made(t)
			one, other := edged(base, 0, rec("k", "v", 1)), edged(second, 0, rec("k", "v", 1))
			one.batches[0].Producer, one.batches[0].Seq = most, least
			other.batches[0].Producer, other.batches[0].Seq = most, least
			want := 4
			if base == second {
				want = 0
			}
			k.saw("P24.1", 0, one)
			k.saw("P24.1", want, other)
			k.saw("P24.1", 0, one)
		}
	}
}
