package device_test

import (
	"math"
	"math/big"
	"slices"
	"testing"

	"bollard/api"
)

// somePicks are picks at the edges of small numbers, of signs and of words.
func somePicks() []int {
	out := []int{math.MinInt, math.MinInt + 1, math.MinInt + 2, math.MaxInt - 2, math.MaxInt - 1, math.MaxInt}
	for p := -40; p <= 40; p++ {
		out = append(out, p)
	}
	for i := range 62 {
		out = append(out, 1<<i-1, 1<<i, -1<<i, -1<<i-1)
	}
	return out
}

// modulo is p modulo m, from 0 on, by numbers of any size.
func modulo(p, m int) int {
	return int(new(big.Int).Mod(big.NewInt(int64(p)), big.NewInt(int64(m))).Int64())
}

func TestCrashExample(t *testing.T) {
	const a, b, c = 1, 2, 3
	d := made(t, 1)
	put(t, d, 0, a)
	flush(t, d)
	put(t, d, 0, b)
	put(t, d, 0, c)
	for p, left := range map[int]int{0: a, 1: b, 2: c, 3: a, -1: c} {
		want(t, "P3.3: the chapter's example", d.Crash([]int{p}), left)
	}
}

func TestCrashByEachPick(t *testing.T) {
	for w := range 13 {
		d := made(t, 3)
		put(t, d, 1, 100)
		flush(t, d)
		for turn := 1; turn <= w; turn++ {
			put(t, d, 1, turn)
		}
		for _, p := range somePicks() {
			left := modulo(p, w+1)
			if left == 0 {
				left = 100
			}
			want(t, "P3.3: a pick", d.Crash([]int{p}), -1, left, -1)
		}
	}
}

func TestCrashOfNeverFlushed(t *testing.T) {
	d := made(t, 2)
	put(t, d, 1, 5)
	want(t, "P3.3: never flushed", d.Crash([]int{0}), -1, -1)
	want(t, "P3.3: never flushed", d.Crash([]int{1}), -1, 5)
	want(t, "P3.3: never flushed", d.Crash([]int{2}), -1, -1)
}

// TestCrashByRisingNumbers: only blocks with pending writes take a pick, the least first, however they were written.
func TestCrashByRisingNumbers(t *testing.T) {
	const n = 60
	d := made(t, n)
	for k := range n {
		put(t, d, k, 200)
	}
	flush(t, d)
	var some []int
	for i := range n {
		k := (i*37 + 11) % n
		if k%3 == 1 {
			continue
		}
		some = append(some, k)
		for turn := range 1 + k%5 {
			put(t, d, k, turn+1)
		}
	}
	slices.Sort(some)
	for round := range 20 {
		picks := make([]int, len(some))
		left := slices.Repeat([]int{200}, n)
		for i, k := range some {
			picks[i] = i*i*7 + round*13 - 300
			if turn := modulo(picks[i], 2+k%5); turn > 0 {
				left[k] = turn
			}
		}
		want(t, "P3.3: by rising numbers", d.Crash(picks), left...)
	}
}

func TestCrashWithFewAndManyPicks(t *testing.T) {
	d := made(t, 5)
	for _, k := range []int{4, 2, 0} {
		put(t, d, k, 10+k)
	}
	for _, x := range []struct {
		picks, left []int
	}{
		{nil, []int{-1, -1, -1, -1, -1}},
		{[]int{}, []int{-1, -1, -1, -1, -1}},
		{[]int{1}, []int{10, -1, -1, -1, -1}},
		{[]int{0, 1}, []int{-1, -1, 12, -1, -1}},
		{[]int{1, 1}, []int{10, -1, 12, -1, -1}},
		{[]int{0, 0, 1}, []int{-1, -1, -1, -1, 14}},
		{[]int{1, 1, 1}, []int{10, -1, 12, -1, 14}},
		{[]int{1, 0, 1, 1, 1, 1}, []int{10, -1, -1, -1, 14}},
		{[]int{0, 0, 0, 1, 1}, []int{-1, -1, -1, -1, -1}},
		{slices.Repeat([]int{-1}, 1000), []int{10, -1, 12, -1, 14}},
		{slices.Repeat([]int{math.MinInt}, 1000), []int{-1, -1, -1, -1, -1}},
		{slices.Repeat([]int{math.MaxInt}, 1000), []int{10, -1, 12, -1, 14}},
		{[]int{1, 1, 1}[:2:2], []int{10, -1, 12, -1, -1}},
		{[]int{1, 1, 1}[:1], []int{10, -1, -1, -1, -1}},
	} {
		want(t, "P3.3: few and many picks", d.Crash(x.picks), x.left...)
	}
}

func TestCrashOfNothingPending(t *testing.T) {
	d := made(t, 2)
	want(t, "P3.3: of a new device", d.Crash([]int{1, 1, -1}), -1, -1)
	put(t, d, 0, 1)
	put(t, d, 0, 2)
	flush(t, d)
	want(t, "P3.3: of a flushed device", d.Crash([]int{1, 1, -1}), 2, -1)
}

// TestSameBytesTwice: a write of the bytes that are there already is a write, too.
func TestSameBytesTwice(t *testing.T) {
	d := made(t, 2)
	put(t, d, 0, 1)
	flush(t, d)
	put(t, d, 0, 1)
	put(t, d, 0, 2)
	put(t, d, 0, 2)
	put(t, d, 1, 3)
	for p, left := range []int{1, 1, 2, 2, 1, 1} {
		want(t, "P3.3: the same bytes twice", d.Crash([]int{p, 1}), left, 3)
	}
	want(t, "P3.3: the same bytes, the last", d.Crash([]int{-1, -2}), 2, -1)
}

func TestCrashIsSettled(t *testing.T) {
	d := made(t, 3)
	put(t, d, 0, 1)
	put(t, d, 0, 2)
	put(t, d, 2, 3)
	c := d.Crash([]int{1, 1})
	if c.Ops() != 0 || c.Blocks() != 3 {
		t.Errorf("P3.3: behind a Crash: %d ops, %d blocks", c.Ops(), c.Blocks())
	}
	for _, p := range []int{0, 1, 2, -1} {
		want(t, "P3.3: something is pending behind a Crash", c.Crash([]int{p, p, p}), 1, -1, 3)
	}
	put(t, c, 0, 9)
	want(t, "P3.3: written behind a Crash", c.Crash([]int{0}), 1, -1, 3)
	want(t, "P3.3: written behind a Crash", c.Crash([]int{1}), 9, -1, 3)
	want(t, "P3.3: written behind a Crash", c.Crash([]int{2}), 1, -1, 3)
	if c.Ops() != 1 {
		t.Errorf("P3.1: behind a Crash and a Write: Ops() = %d", c.Ops())
	}
}

func TestCrashIsNeverCut(t *testing.T) {
	for _, n := range []int{-1, 0, 1, 3} {
		d := made(t, 1)
		put(t, d, 0, 1)
		d.Cut(n)
		c := d.Crash([]int{1})
		if c.Ops() != 0 {
			t.Errorf("P3.3: Crash of a device that is cut: Ops() = %d", c.Ops())
		}
		for range 10 {
			put(t, c, 0, 2)
			flush(t, c)
		}
		done := 0
		for range 10 {
			if d.Flush() == api.OK {
				done++
			}
		}
		if done != max(n, 0) {
			t.Errorf("P3.3: Crash turned the Cut(%d) of the device itself: %d ops are done", n, done)
		}
	}
}

func TestCrashLeavesTheDevice(t *testing.T) {
	d := made(t, 3)
	put(t, d, 0, 1)
	flush(t, d)
	put(t, d, 0, 2)
	put(t, d, 1, 3)
	d.Cut(2)
	for p := range 4 {
		c := d.Crash([]int{p, p})
		put(t, c, 0, 50)
		put(t, c, 2, 51)
		flush(t, c)
		put(t, c, 1, 52)
		c.Cut(0)
	}
	want(t, "P3.3: the device itself", d, 2, 3, -1)
	want(t, "P3.3: the device itself", d.Crash([]int{0, 1}), 1, 3, -1)
	if d.Ops() != 4 {
		t.Errorf("P3.3: the device itself: Ops() = %d", d.Ops())
	}
	put(t, d, 2, 4)
	flush(t, d)
	if e := d.Flush(); e != api.ErrOff {
		t.Errorf("P3.3: the device itself: Flush() = %d, want %d", e, api.ErrOff)
	}
	want(t, "P3.3: the device itself", d.Crash(nil), 2, 3, 4)
}

func TestCrashIsLeftByTheDevice(t *testing.T) {
	d := made(t, 3)
	put(t, d, 0, 1)
	flush(t, d)
	put(t, d, 0, 2)
	put(t, d, 1, 3)
	before, behind := d.Crash(nil), d.Crash([]int{1, 1})
	put(t, d, 0, 7)
	put(t, d, 2, 8)
	flush(t, d)
	put(t, d, 0, 9)
	d.Cut(0)
	want(t, "P3.3: what a crash left", before, 1, -1, -1)
	want(t, "P3.3: what a crash left", behind, 2, 3, -1)
	want(t, "P3.3: what a crash left", behind.Crash([]int{1, 1, 1}), 2, 3, -1)
	put(t, behind, 1, 4)
	want(t, "P3.3: what another crash left", before, 1, -1, -1)
}

func TestPicksAreLeft(t *testing.T) {
	d := made(t, 4)
	for k := range 4 {
		put(t, d, k, k)
	}
	whole := []int{9, -1, 5, math.MinInt, math.MaxInt, 9, 9}
	before := slices.Clone(whole)
	c := d.Crash(whole[1:4])
	if !slices.Equal(whole, before) {
		t.Errorf("P3.3: picks were changed: %v", whole)
	}
	clear(whole)
	want(t, "P3.3: picks were kept", c, 0, 1, -1, -1)
}
