package journal_test

import (
	"testing"

	"bollard/api"
	"bollard/device"
	"bollard/journal"
)

func TestReadOfNoHome(t *testing.T) {
	for _, n := range []int{246, 300} {
		d := formatted(t, n)
		j := opened(t, d)
		for round := range 3 {
			for _, k := range noHomes(n) {
				if b, e := j.Read(k); b != nil || e != api.ErrArg {
					t.Errorf("P4.3: of %d blocks: Read(%d) = %x, error %d", n, k, b, e)
				}
			}
			if round == 0 {
				commit(t, j, list(first, 1))
			} else {
				sync(t, j)
			}
		}
	}
}

// TestReadIsNoOp: it needs no power.
func TestReadIsNoOp(t *testing.T) {
	d := formatted(t, 250)
	j := opened(t, d)
	commit(t, j, list(246, 6))
	d.Cut(0)
	ops := d.Ops()
	same(t, "P4.3: Read, off", homes(t, j, 250), 0, 6, 0, 0, 0)
	if _, e := j.Read(0); e != api.ErrArg || d.Ops() != ops {
		t.Errorf("P4.3: Read(0), off, = %d, %d ops", e, d.Ops()-ops)
	}
	d.Cut(1000)
	commit(t, j, list(247, 7))
	same(t, "P4.3: Read, on again", homes(t, j, 250), 0, 6, 7, 0, 0)
}

// TestReadIsWhatOpenFound: homes that nothing was committed of.
func TestReadIsWhatOpenFound(t *testing.T) {
	d := formatted(t, 250)
	for k := first; k < 250; k++ {
		d.Write(k, full(k))
	}
	j := opened(t, d)
	same(t, "P4.3: what Open found", homes(t, j, 250), 245, 246, 247, 248, 249)
	commit(t, j, list(247, 1))
	same(t, "P4.3: what Open found, and a Commit", homes(t, j, 250), 245, 246, 1, 248, 249)
	same(t, "P4.1: what Open found is for good", homes(t, opened(t, d.Crash(nil)), 250), 245, 246, 1, 248, 249)
}

// TestOpenIsForGood: what is pending when a journal opens, by whomever, no crash takes then.
func TestOpenIsForGood(t *testing.T) {
	d := formatted(t, 250)
	d.Write(247, full(1))
	j := opened(t, d)
	same(t, "P4.1: a pending home", homes(t, j, 250), 0, 0, 1, 0, 0)
	same(t, "P4.1: a pending home, crashed", homes(t, opened(t, d.Crash(nil)), 250), 0, 0, 1, 0, 0)
	// The power goes within a Commit and comes back without a crash.
	for cut := 0; ; cut++ {
		d := formatted(t, 250)
		j := opened(t, d)
		commit(t, j, list(245, 1))
		d.Cut(cut)
		if j.Commit(list(246, 2, 247, 3)) == api.OK {
			return
		}
		d.Cut(1000)
		told := homes(t, opened(t, d), 250)
		for _, picks := range [][]int{nil, {1, 1, 1, 1, 1, 1}, {0, 1, 0, 1}, {1, 0, 1, 0}} {
			same(t, "P4.1: what Open told, crashed", homes(t, opened(t, d.Crash(picks)), 250), told...)
		}
		same(t, "P4.1: what Open told, opened again", homes(t, opened(t, d), 250), told...)
	}
}

// TestSync: the homes on the device itself hold all, for good, at each fill of the journal.
func TestSync(t *testing.T) {
	for fill := range 14 {
		d := formatted(t, 260)
		j := opened(t, d)
		want := make([]int, 260-first)
		for i := range fill {
			commit(t, j, list(first+i, i+1, first+14, i+20))
			want[i], want[14] = i+1, i+20
		}
		sync(t, j)
		same(t, "P4.3: Read behind Sync", homes(t, j, 260), want...)
		same(t, "P4.3: the homes behind Sync", bare(t, d), want...)
		for _, picks := range [][]int{nil, {1, 1, 1, 1, 1, 1}, {0, 1, 0, 1}} {
			c := d.Crash(picks)
			same(t, "P4.3: the homes behind Sync and a crash", bare(t, c), want...)
			same(t, "P4.3: Open behind Sync and a crash", homes(t, opened(t, c), 260), want...)
		}
		sync(t, j)
		same(t, "P4.3: Sync twice", bare(t, d.Crash(nil)), want...)
		commit(t, j, list(250, 99))
		want[5] = 99
		same(t, "P4.3: a Commit behind Sync", homes(t, opened(t, d.Crash(nil)), 260), want...)
	}
}

// TestSyncOfAnother: a journal that was opened lays what the one ahead of it committed.
func TestSyncOfAnother(t *testing.T) {
	for fill := range 6 {
		d := formatted(t, 260)
		j := opened(t, d)
		want := make([]int, 260-first)
		for i := range fill {
			commit(t, j, list(first+i, i+1, first+14, i+20))
			want[i], want[14] = i+1, i+20
		}
		c := d.Crash(nil)
		sync(t, opened(t, c))
		same(t, "P4.3: Sync of what Open found", bare(t, c.Crash(nil)), want...)
	}
}

func TestSyncOff(t *testing.T) {
	for fill := range 3 {
		d := formatted(t, 250)
		j := opened(t, d)
		for i := range fill {
			commit(t, j, list(first+i, i+1))
		}
		d.Cut(0)
		if e := j.Sync(); e != api.ErrOff {
			t.Errorf("P4.3: Sync of a device that is off = %d", e)
		}
	}
}

// others writes homes on the device itself.
func others(t *testing.T, d *device.Device, v int) (out []int) {
	t.Helper()
	for k := first; k < d.Blocks(); k++ {
		if e := d.Write(k, full(v+k)); e != api.OK {
			t.Fatalf("Write(%d) = %d", k, e)
		}
		out = append(out, int(byte(v+k)))
	}
	return out
}

// TestHomesOfOthers: nothing of the journal lies over what others wrote, while nothing is committed, or all is Synced.
func TestHomesOfOthers(t *testing.T) {
	for fill := range 10 {
		d := formatted(t, 250)
		j := opened(t, d)
		for i := range fill {
			commit(t, j, run(first, 1+i%5, i+1))
		}
		if fill > 0 {
			sync(t, j)
		}
		for round := range 3 {
			want := others(t, d, 50*round+1)
			same(t, "P4.5: read by the journal itself", homes(t, j, 250), want...)
			switch round {
			case 0:
				sync(t, j)
			case 1:
				j = opened(t, d)
			case 2:
				d.Flush()
				d = d.Crash(nil)
				j = opened(t, d)
			}
			same(t, "P4.5: read behind Sync, Open, a crash", homes(t, j, 250), want...)
		}
		want := others(t, d, 7)
		commit(t, j, list(247, 1))
		want[2] = 1
		same(t, "P4.5: a Commit over what others wrote", homes(t, j, 250), want...)
		d.Flush()
		same(t, "P4.5: a Commit over what others wrote, crashed", homes(t, opened(t, d.Crash(nil)), 250), want...)
		for i := range 7 {
			commit(t, j, list(249, 10+i))
		}
		want[4] = 16
		same(t, "P4.5: Commits over what others wrote", homes(t, j, 250), want...)
		sync(t, j)
		same(t, "P4.5: Commits over what others wrote, in the homes", bare(t, d.Crash(nil)), want...)
	}
}

// TestHomesOfOthersUncommitted: an empty Commit, and one that is refused, is no Commit.
func TestHomesOfOthersUncommitted(t *testing.T) {
	d := formatted(t, 250)
	j := opened(t, d)
	j.Commit(nil)
	j.Commit(list(0, 1))
	j.Commit(list(246, 1, 246, 1))
	want := others(t, d, 9)
	same(t, "P4.5: nothing was committed", homes(t, j, 250), want...)
	same(t, "P4.5: nothing was committed", homes(t, opened(t, d), 250), want...)
}

// TestJournalsApart: two of them on two devices have nothing in common.
func TestJournalsApart(t *testing.T) {
	d, e := formatted(t, 250), formatted(t, 250)
	j, k := opened(t, d), opened(t, e)
	commit(t, j, list(245, 1))
	commit(t, k, list(246, 2))
	same(t, "the first", homes(t, j, 250), 1, 0, 0, 0, 0)
	same(t, "the second", homes(t, k, 250), 0, 2, 0, 0, 0)
	e.Cut(0)
	if k.Sync() != api.ErrOff || j.Sync() != api.OK || j.Commit(list(249, 9)) != api.OK {
		t.Error("P4.2: one journal's ErrOff is another's")
	}
	same(t, "the first", homes(t, j, 250), 1, 0, 0, 0, 9)
	same(t, "the second", homes(t, k, 250), 0, 2, 0, 0, 0)
}

func TestNilAndZero(t *testing.T) {
	d := fresh(t, 310)
	for what, j := range map[string]*journal.Journal{"nil": nil, "zero": {}} {
		for range 2 {
			for name, r := range refused(310) {
				if e := j.Commit(r.l); e != api.ErrArg {
					t.Errorf("P4.6: %s: Commit (%s) = %d", what, name, e)
				}
			}
			for _, l := range [][]journal.Change{list(first, 1), list(300, 1), run(first, 60, 1)} {
				if e := j.Commit(l); e != api.ErrArg {
					t.Errorf("P4.6: %s: Commit of %d changes = %d", what, len(l), e)
				}
			}
			if e := j.Commit(nil); e != api.OK {
				t.Errorf("P4.6: %s: Commit of no changes = %d", what, e)
			}
			for _, k := range append(noHomes(310), first, first+1, 300, 309) {
				if b, e := j.Read(k); b != nil || e != api.ErrArg {
					t.Errorf("P4.6: %s: Read(%d) = %x, error %d", what, k, b, e)
				}
			}
			if e := j.Sync(); e != api.ErrOff {
				t.Errorf("P4.6: %s: Sync() = %d", what, e)
			}
		}
	}
	if d.Ops() != 0 {
		t.Error("P4.6: a zero Journal used a device")
	}
}
