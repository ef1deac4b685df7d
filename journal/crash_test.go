package journal_test

import (
	"slices"
	"testing"

	"bollard/api"
	"bollard/device"
	"bollard/journal"
)

// act is a Commit; one without changes is a Sync.
type act []journal.Change

func (a act) do(j *journal.Journal) api.Errno {
	if len(a) == 0 {
		return j.Sync()
	}
	return j.Commit(a)
}

// on is what an act makes of homes.
func (a act) on(state []int) []int {
	out := slices.Clone(state)
	for _, c := range a {
		out[c.Block-first] = told(c.Data)
	}
	return out
}

// dice are numbers without a pattern, the same ones at each run.
type dice uint64

func (x *dice) below(n int) int {
	*x = *x*6364136223846793005 + 1442695040888963407
	return int(uint64(*x) >> 33 % uint64(n))
}

func (x *dice) picks(n int) (out []int) {
	for range n {
		out = append(out, x.below(7)-3)
	}
	return out
}

// somePicks are none, all, the first and last ones alone, every other one, and mixed ones.
func somePicks(x *dice) [][]int {
	return [][]int{
		nil,
		slices.Repeat([]int{-1}, 300),
		slices.Repeat([]int{0, 1}, 150),
		slices.Repeat([]int{1, 0}, 150),
		{1},
		append([]int{0}, slices.Repeat([]int{1}, 300)...),
		x.picks(5),
		x.picks(300),
		x.picks(300),
	}
}

// allPicks are each choice among n blocks with one pending write, and all of what is beyond them.
func allPicks(n int) (out [][]int) {
	for bits := range 1 << n {
		var l []int
		for i := range n {
			l = append(l, bits>>i&1)
		}
		out = append(out, append(l, -1, -1, -1))
	}
	return out
}

// holder holds devices that crashed against the law.
type holder struct {
	t             *testing.T
	before, after []int   // what must be told: one of them
	picks         [][]int // what it crashes with then
	what          string
}

// hold opens what a crash left, and the same again where that Open is cut at each of its ops.
func (h holder) hold(d *device.Device, rounds int) {
	h.t.Helper()
	for cut := 0; rounds > 0; cut++ {
		c := d.Copy()
		c.Cut(cut)
		j, e := journal.Open(c)
		if e == api.OK {
			h.tells(j)
			break
		}
		if e != api.ErrOff || j != nil || cut > 2000 {
			h.t.Fatalf("P4.4: %s: Open cut behind %d ops = %v, error %d", h.what, cut, j, e)
		}
		for _, picks := range h.picks {
			h.hold(c.Crash(picks), rounds-1)
		}
		// The power may come back without a crash, too.
		c.Cut(1 << 20)
		h.tells(opened(h.t, c))
	}
	c := d.Copy()
	j := opened(h.t, c)
	h.tells(j)
	h.stays(c, j)
}

// tells holds a journal against what was done.
func (h holder) tells(j *journal.Journal) {
	h.t.Helper()
	got := homes(h.t, j, first+len(h.before))
	if !slices.Equal(got, h.before) && !slices.Equal(got, h.after) {
		h.t.Fatalf("P4.4: %s: homes\n%v, want\n%v or\n%v", h.what, got, h.before, h.after)
	}
}

// stays: what a journal told once is told behind crashes, and it goes on.
func (h holder) stays(d *device.Device, j *journal.Journal) {
	h.t.Helper()
	n := first + len(h.before)
	tells := homes(h.t, j, n)
	for _, picks := range h.picks {
		same(h.t, "P4.1: "+h.what+": told once, and crashed", homes(h.t, opened(h.t, d.Crash(picks)), n), tells...)
	}
	commit(h.t, j, list(n-1, 77))
	tells[len(tells)-1] = 77
	same(h.t, "P4.4: "+h.what+": a Commit behind", homes(h.t, opened(h.t, d.Crash(nil)), n), tells...)
}

// law plays acts on copies of d, each cut at another op, Open's own among them, until none of them is reached.
func law(t *testing.T, d *device.Device, acts []act, rounds int, crashes, again [][]int) {
	t.Helper()
	start := homes(t, opened(t, d.Copy()), d.Blocks())
	for cut := 0; ; cut++ {
		c := d.Copy()
		c.Cut(cut)
		h := holder{t: t, before: start, after: start, picks: again, what: "cut at Open"}
		j, e := journal.Open(c)
		done := 0
		for ; e == api.OK && done < len(acts); done++ {
			h.before = h.after
			h.after = acts[done].on(h.before)
			h.what = "cut at act " + string(rune('A'+done))
			e = acts[done].do(j)
		}
		if e == api.OK {
			h.before, h.what = h.after, "not cut"
			h.tells(j)
		} else if e != api.ErrOff || cut > 5000 {
			t.Fatalf("P4.4: %s: error %d", h.what, e)
		} else if j != nil {
			same(t, "P4.3: Read behind ErrOff", homes(t, j, d.Blocks()), h.before...)
		}
		for _, picks := range crashes {
			h.hold(c.Crash(picks), rounds)
		}
		if t.Failed() {
			t.Fatalf("%s, behind %d ops", h.what, cut)
		}
		if e == api.OK {
			return
		}
	}
}

// TestLawOfOneCommit: each choice of a crash, at each op, and at each op of the Open behind it.
func TestLawOfOneCommit(t *testing.T) {
	for _, n := range []int{1, 2, 4} {
		d := formatted(t, 250)
		others(t, d, 20)
		d.Flush()
		law(t, d, []act{run(first, n, 1)}, 2, allPicks(6), allPicks(1))
	}
}

// TestLawOfCommits: more of them than the journal's own blocks hold, so that homes are written in between.
func TestLawOfCommits(t *testing.T) {
	var acts []act
	for i := range 11 {
		acts = append(acts, list(first+i%3, 10+i, first+(i+1)%3, 30+i, first+3+i%2, 50+i))
	}
	law(t, formatted(t, 251), acts, 1, allPicks(5), [][]int{nil, {1, 1, 1}})
}

func TestLawOfSync(t *testing.T) {
	for fill := range 6 {
		d := formatted(t, 252)
		j := opened(t, d)
		for i := range fill {
			commit(t, j, list(first+i, i+1, first+5, i+20))
		}
		law(t, d, []act{nil, list(first, 90, first+5, 91), nil, nil, list(first, 92, first+1, 93)}, 1, allPicks(4), allPicks(1))
	}
}

// TestLawOfGreatCommits: 60 blocks each, a cut at each op of those that fill the journal and of the ones behind.
func TestLawOfGreatCommits(t *testing.T) {
	x := dice(3)
	d := formatted(t, 320)
	j := opened(t, d)
	for i := range 3 {
		commit(t, j, run(first+i, 60, 10*i+1))
	}
	acts := []act{run(first+3, 60, 50), run(first+10, 60, 100), nil, run(first, 60, 150)}
	law(t, d, acts, 1, somePicks(&x)[:7], [][]int{nil})
}

// TestLawOfMixedCommits: all sizes, Syncs among them.
func TestLawOfMixedCommits(t *testing.T) {
	for seed := range 3 {
		x := dice(seed)
		var acts []act
		for i := range 12 {
			n := 1 + x.below(9)
			if x.below(5) == 0 {
				n = 0
			}
			acts = append(acts, act(run(first+x.below(12), n, 10*i+1)))
		}
		law(t, formatted(t, 270), acts, 1, somePicks(&x), [][]int{x.picks(9)})
	}
}

// TestLawOfOpen: it is cut at each op, again and again, of a device that crashed within a Commit, or within the write of homes.
func TestLawOfOpen(t *testing.T) {
	for _, fill := range []int{0, 1, 3, 4, 5} {
		d := formatted(t, 252)
		j := opened(t, d)
		for i := range fill {
			commit(t, j, list(first+i, i+1, first+5, i+20))
		}
		law(t, d, []act{list(first, 90, first+5, 91)}, 4, [][]int{nil, {1, 1, 1, 1, 1, 1, 1}, {1, 0, 1, 0, 1}}, [][]int{nil, {-1, -1, -1}})
	}
}

// TestFalseTables: no mixture of old and new blocks of the journal is taken for a whole Commit, though their bytes are such that a sum may be the same.
func TestFalseTables(t *testing.T) {
	d := formatted(t, 252)
	j := opened(t, d)
	for i := range 9 {
		commit(t, j, run(first, 5, 10*i+1))
	}
	// The same blocks again, in the same slots, with other bytes.
	var acts []act
	for i := range 9 {
		acts = append(acts, run(first, 5, 10*i+101))
	}
	law(t, d, acts, 1, allPicks(5), [][]int{nil})
}
