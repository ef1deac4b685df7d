package cache_test

import (
	"slices"
	"testing"

	"bollard/api"
	"bollard/cache"
	"bollard/device"
)

// dice are numbers without a pattern, the same ones at each run.
type dice uint64

func (x *dice) below(n int) int {
	*x = *x*6364136223846793005 + 1442695040888963407
	return int(uint64(*x) >> 33 % uint64(n))
}

func (x *dice) picks(n int) (out []int) {
	for range n {
		out = append(out, x.below(7)-3)
	}
	return out
}

// somePicks are none, all, the first and last ones alone, every other one, and mixed ones.
func somePicks(x *dice) [][]int {
	return [][]int{
		nil,
		slices.Repeat([]int{-1}, 300),
		slices.Repeat([]int{0, 1}, 150),
		slices.Repeat([]int{1, 0}, 150),
		{1},
		append([]int{0}, slices.Repeat([]int{1}, 300)...),
		x.picks(5),
		x.picks(300),
	}
}

// law commits a transaction that writes does on copies of d, each cut at another op, until none of them is reached.
func law(t *testing.T, d *device.Device, writes func(c *cache.Cache)) {
	t.Helper()
	x, n := dice(5), d.Blocks()
	for cut := 0; ; cut++ {
		disk := d.Copy()
		c := cache.New(opened(t, disk))
		before := homes(t, c, n)
		begin(t, c)
		writes(c)
		after := homes(t, c, n)
		disk.Cut(cut)
		e := c.Commit()
		if e != api.OK && e != api.ErrOff || cut > 2000 {
			t.Fatalf("P5.3: Commit cut behind %d ops = %d", cut, e)
		}
		for _, picks := range somePicks(&x) {
			got := homes(t, cache.New(opened(t, disk.Crash(picks))), n)
			if !slices.Equal(got, after) && (e == api.OK || !slices.Equal(got, before)) {
				t.Fatalf("P5.5: a Commit cut behind %d ops, error %d, crashed with %v: homes\n%v, want\n%v or, behind ErrOff,\n%v", cut, e, picks, got, after, before)
			}
		}
		if e == api.OK {
			return
		}
	}
}

// TestLaw: of small and full transactions, on journals that are empty, filled in part, and full.
func TestLaw(t *testing.T) {
	for _, size := range []int{1, 2, 5, 60} {
		for fill := range 6 {
			d, _, c := made(t, 320)
			for i := range fill {
				begin(t, c)
				run(t, c, first+5*i, 7, 10*i+1)
				commit(t, c)
			}
			law(t, d, func(c *cache.Cache) { run(t, c, first+3, size, 100) })
		}
	}
}

// TestLawOfWhatIsWrittenAgain: the last Write of each block counts, and what was aborted ahead does not.
func TestLawOfWhatIsWrittenAgain(t *testing.T) {
	d := formatted(t, 260)
	law(t, d, func(c *cache.Cache) {
		run(t, c, first, 9, 1)
		abort(t, c)
		begin(t, c)
		write(t, c, first+2, 5, first+4, 6, first+2, 7, first+8, 8)
	})
}
