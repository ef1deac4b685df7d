package journal_test

import (
	"bytes"
	"fmt"
	"slices"
	"testing"

	"bollard/api"
	"bollard/journal"
)

// refused are commits of a device with n blocks (at least 310 of them) that may not be, and what they answer.
func refused(n int) map[string]struct {
	l    []journal.Change
	must api.Errno
} {
	type row = struct {
		l    []journal.Change
		must api.Errno
	}
	out := map[string]row{
		"the same twice":              {list(250, 1, 250, 2), api.ErrArg},
		"the same twice, the same":    {list(250, 1, 250, 1), api.ErrArg},
		"the first again at last":     {append(run(first, 59, 1), list(first, 1)...), api.ErrArg},
		"61":                          {run(first, 61, 1), api.ErrBig},
		"65":                          {run(first, 65, 1), api.ErrBig},
		"61, the last no home":        {append(run(first, 60, 1), list(n, 1)...), api.ErrArg},
		"61, the first no home":       {append(list(0, 1), run(first, 60, 1)...), api.ErrArg},
		"61, the last twice":          {append(run(first, 60, 1), list(first, 1)...), api.ErrArg},
		"61, the last short":          {append(run(first, 60, 1), journal.Change{Block: 308, Data: full(1)[:511]}), api.ErrArg},
		"good ones and one no home":   {append(run(first, 5, 1), list(first-1, 1)...), api.ErrArg},
		"good ones and one too short": {append(run(first, 5, 1), journal.Change{Block: 300}), api.ErrArg},
		"the zero one":                {make([]journal.Change, 1), api.ErrArg},
		"61 zero ones":                {make([]journal.Change, 61), api.ErrArg},
	}
	for _, k := range noHomes(n) {
		out[fmt.Sprint("no home: ", k)] = row{list(k, 1), api.ErrArg}
		out[fmt.Sprint("homes and no home: ", k)] = row{list(250, 1, k, 1, 251, 1), api.ErrArg}
	}
	for _, b := range [][]byte{nil, {}, {1}, full(1)[:511], append(full(1), 1), append(full(1), full(1)...), make([]byte, 0, 512)} {
		out[fmt.Sprint("bytes: ", len(b))] = row{[]journal.Change{{Block: 250, Data: b}}, api.ErrArg}
		out[fmt.Sprint("the last has bytes: ", len(b))] = row{append(run(first, 4, 1), journal.Change{Block: 250, Data: b}), api.ErrArg}
	}
	return out
}

// TestRefused: it is told, nothing has happened, and the journal goes on.
func TestRefused(t *testing.T) {
	d := formatted(t, 310)
	j := opened(t, d)
	commit(t, j, run(first, 20, 1))
	before := homes(t, j, 310)
	for what, r := range refused(310) {
		ops := d.Ops()
		if e := j.Commit(r.l); e != r.must {
			t.Errorf("P4.2: Commit (%s) = %d, want %d", what, e, r.must)
		}
		if d.Ops() != ops {
			t.Errorf("P4.2: Commit (%s): %d ops", what, d.Ops()-ops)
		}
		same(t, "P4.2: behind what was refused", homes(t, j, 310), before...)
	}
	same(t, "P4.2: behind what was refused, and a crash", homes(t, opened(t, d.Crash(nil)), 310), before...)
	commit(t, j, list(first, 77))
	before[0] = 77
	same(t, "P4.2: going on behind what was refused", homes(t, j, 310), before...)
}

// TestRefusedEverywhere: at each fill of the journal, full ones too, what is refused changes nothing that a crash could show.
func TestRefusedEverywhere(t *testing.T) {
	d := formatted(t, 310)
	j := opened(t, d)
	for round := range 10 {
		ops := d.Ops()
		if e := j.Commit(list(9, 9)); e != api.ErrArg {
			t.Errorf("P4.2: Commit of no home = %d", e)
		}
		if e := j.Commit(run(first, 61, 1)); e != api.ErrBig {
			t.Errorf("P4.2: Commit of 61 = %d", e)
		}
		if e := j.Commit(nil); e != api.OK {
			t.Errorf("P4.2: Commit of nothing = %d", e)
		}
		if d.Ops() != ops {
			t.Errorf("P4.2: round %d: %d ops of Commits that do nothing", round, d.Ops()-ops)
		}
		commit(t, j, list(first+round, round+1))
	}
}

func TestEmptyCommit(t *testing.T) {
	d := formatted(t, 250)
	j := opened(t, d)
	ops := d.Ops()
	for _, l := range [][]journal.Change{nil, {}, make([]journal.Change, 0, 9)} {
		if e := j.Commit(l); e != api.OK || d.Ops() != ops {
			t.Errorf("P4.2: Commit of no changes = %d, %d ops", e, d.Ops()-ops)
		}
	}
	d.Cut(0)
	if e := j.Commit(nil); e != api.OK {
		t.Errorf("P4.2: Commit of no changes, off, = %d", e)
	}
	if e := j.Commit(list(first, 1)); e != api.ErrOff {
		t.Errorf("P4.2: Commit, off, = %d", e)
	}
	if e := j.Commit(nil); e != api.OK {
		t.Errorf("P4.2: Commit of no changes behind ErrOff = %d", e)
	}
}

// TestSizes: 1 to 60 changes, each for good, in any order of their blocks.
func TestSizes(t *testing.T) {
	for _, n := range []int{1, 2, 3, 7, 30, 59, 60} {
		d := formatted(t, 310)
		j := opened(t, d)
		l := run(first+1, n, 1)
		slices.Reverse(l)
		commit(t, j, l)
		want := make([]int, 310-first)
		for i := range n {
			want[1+i] = 1 + i
		}
		same(t, "P4.2: Read behind Commit", homes(t, j, 310), want...)
		for _, picks := range [][]int{nil, slices.Repeat([]int{1}, 200), slices.Repeat([]int{0, 1}, 100)} {
			same(t, "P4.2: a Commit is for good", homes(t, opened(t, d.Crash(picks)), 310), want...)
		}
	}
}

// TestFirstAndLastHome: the numbers of homes are kept whole, the greatest too.
func TestFirstAndLastHome(t *testing.T) {
	for _, n := range []int{first + 1, 256, 257, 512, 513, 1000, 32768, 32769, api.MaxBlocks - 1, api.MaxBlocks} {
		d := formatted(t, n)
		j := opened(t, d)
		commit(t, j, list(n-1, 3))
		if n-1 > first {
			commit(t, j, list(first, 4))
		}
		k := opened(t, d.Crash(nil))
		for what, x := range map[string]*journal.Journal{"Read": j, "Read behind a crash": k} {
			last, e := x.Read(n - 1)
			if e != api.OK || told(last) != 3 {
				t.Errorf("P4.2: of %d blocks: %s of the last home = %x, error %d", n, what, last, e)
			}
			if b, e := x.Read(first); n-1 > first && (e != api.OK || told(b) != 4) {
				t.Errorf("P4.2: of %d blocks: %s of the first home = %x, error %d", n, what, b, e)
			}
		}
		sync(t, k)
		if b, _ := d.Read(n - 1); told(b) != 0 {
			t.Errorf("P3.3: a crash's device has something in common with its own")
		}
		sync(t, j)
		if b, _ := d.Crash(nil).Read(n - 1); told(b) != 3 {
			t.Errorf("P4.3: of %d blocks: the last home is %x behind Sync", n, b)
		}
	}
}

// TestManyCommits: far more than the journal's own blocks hold at once, the last one of each home is told.
func TestManyCommits(t *testing.T) {
	for _, size := range []int{1, 2, 59, 60} {
		d := formatted(t, 330)
		j := opened(t, d)
		want := make([]int, 330-first)
		for round := range 25 {
			at := 3 * round % 25
			commit(t, j, run(first+at, size, round+1))
			for i := range size {
				want[at+i] = round + 1 + i
			}
			same(t, "P4.2: many Commits", homes(t, j, 330), want...)
			same(t, "P4.2: many Commits, for good", homes(t, opened(t, d.Crash(nil)), 330), want...)
		}
		sync(t, j)
		same(t, "P4.3: many Commits, in the homes", bare(t, d.Crash(nil)), want...)
	}
}

// TestOneHomeOverAndOver: the last Commit holds, whatever the ones ahead of it said.
func TestOneHomeOverAndOver(t *testing.T) {
	d := formatted(t, 246)
	j := opened(t, d)
	for v := range 40 {
		commit(t, j, list(first, 40-v))
		same(t, "P4.3: one home over and over", homes(t, j, 246), 40-v)
		j = opened(t, d)
		same(t, "P4.3: one home over and over, opened", homes(t, j, 246), 40-v)
		if v%7 == 3 {
			sync(t, j)
			same(t, "P4.3: one home over and over, Synced", bare(t, d.Crash(nil)), 40-v)
		}
	}
}

// TestAnyBytes: what is committed may look like anything, like the journal's own blocks too.
func TestAnyBytes(t *testing.T) {
	d := formatted(t, 310)
	j := opened(t, d)
	commit(t, j, run(250, 10, 1))
	for round := range 9 {
		var l []journal.Change
		for i := range 60 {
			b, _ := d.Read((round*31 + i*4) % first)
			if i < 3 {
				b, _ = d.Read(0)
			}
			if i == 3 {
				b = bytes.Repeat([]byte{0xff}, 512)
			}
			l = append(l, journal.Change{Block: 310 - 1 - i, Data: b})
		}
		commit(t, j, l)
		for what, x := range map[string]*journal.Journal{"": j, ", a crash behind": opened(t, d.Crash(nil))} {
			for _, c := range l {
				if b, e := x.Read(c.Block); e != api.OK || !bytes.Equal(b, c.Data) {
					t.Fatalf("P4.2: round %d%s: Read(%d) = %x, error %d, want %x", round, what, c.Block, b, e, c.Data)
				}
			}
		}
	}
}

// TestOffForEver: behind an ErrOff of Commit or Sync, at each op, both answer ErrOff, though the power is back.
func TestOffForEver(t *testing.T) {
	calls := map[string]func(j *journal.Journal) api.Errno{
		"Commit": func(j *journal.Journal) api.Errno { return j.Commit(list(first, 9, first+3, 9)) },
		"Sync":   func(j *journal.Journal) api.Errno { return j.Sync() },
	}
	for what, call := range calls {
		for fill := range 9 {
			for cut := 0; ; cut++ {
				d := formatted(t, 310)
				j := opened(t, d)
				for i := range fill {
					commit(t, j, list(first+i, i+1, 309-i, i+1))
				}
				before := homes(t, j, 310)
				d.Cut(cut)
				e := call(j)
				if e == api.OK {
					break
				}
				if e != api.ErrOff || cut > 1000 {
					t.Fatalf("P4.2: %s cut behind %d ops = %d", what, cut, e)
				}
				same(t, "P4.3: Read behind ErrOff", homes(t, j, 310), before...)
				d.Cut(100000)
				ops := d.Ops()
				got := []api.Errno{j.Commit(list(250, 1)), j.Sync(), j.Commit(list(0, 1)), j.Commit(run(first, 61, 1)), j.Commit(nil), j.Sync(), j.Commit(list(first, 1))}
				if must := []api.Errno{api.ErrOff, api.ErrOff, api.ErrArg, api.ErrBig, api.OK, api.ErrOff, api.ErrOff}; !slices.Equal(got, must) {
					t.Errorf("P4.2: behind ErrOff of %s at op %d: %v, want %v", what, cut, got, must)
				}
				if d.Ops() != ops {
					t.Errorf("P4.2: behind ErrOff of %s at op %d: %d ops more", what, cut, d.Ops()-ops)
				}
				same(t, "P4.3: Read behind ErrOff for ever", homes(t, j, 310), before...)
			}
		}
	}
}
