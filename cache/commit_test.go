package cache_test

import (
	"slices"
	"testing"

	"bollard/api"
	"bollard/cache"
	"bollard/journal"
)

// TestEndWithoutOne: ErrState, and nothing has happened.
func TestEndWithoutOne(t *testing.T) {
	d, _, c := made(t, 310)
	for round := range 4 {
		ops, before := d.Ops(), homes(t, c, 310)
		answers(t, "P5.3: Commit and Abort without a transaction", []api.Errno{c.Commit(), c.Abort(), c.Abort(), c.Commit()}, api.ErrState, api.ErrState, api.ErrState, api.ErrState)
		is(t, "behind Commit and Abort without a transaction", c, false, 0)
		same(t, "P5.3: Commit and Abort without a transaction", homes(t, c, 310), before...)
		if d.Ops() != ops {
			t.Errorf("P5.3: %d ops of Commit and Abort without a transaction", d.Ops()-ops)
		}
		begin(t, c)
		run(t, c, first, 10*round, round+1)
		if round%2 == 0 {
			commit(t, c)
		} else {
			abort(t, c)
		}
	}
}

// TestWithoutWrites: of such a transaction there is nothing to do, with the power and without it.
func TestWithoutWrites(t *testing.T) {
	d, _, c := made(t, 310)
	for range 2 {
		ops := d.Ops()
		begin(t, c)
		commit(t, c)
		begin(t, c)
		abort(t, c)
		begin(t, c)
		c.Write(first, nil)
		c.Write(0, full(1))
		commit(t, c)
		is(t, "behind transactions without writes", c, false, 0)
		if d.Ops() != ops {
			t.Errorf("P5.3: %d ops of transactions without writes", d.Ops()-ops)
		}
		d.Cut(0)
	}
}

// TestCommitIsForGood: of 1 to 60 blocks, whatever their order was; and Abort leaves nothing of them.
func TestCommitIsForGood(t *testing.T) {
	for _, n := range []int{1, 2, 3, 7, 30, 59, 60} {
		d, j, c := made(t, 310)
		want := make([]int, 310-first)
		begin(t, c)
		for i := range n {
			write(t, c, first+n-i, 50+i)
		}
		ops := d.Ops()
		abort(t, c)
		if d.Ops() != ops {
			t.Errorf("P5.3: %d ops of Abort", d.Ops()-ops)
		}
		same(t, "P5.3: behind Abort", homes(t, c, 310), want...)
		begin(t, c)
		same(t, "P5.3: the transaction behind an Abort", homes(t, c, 310), want...)
		for i := range n {
			k := 1 + (i*11+5)%n
			write(t, c, first+k, k)
			want[k] = k
		}
		is(t, "blocks in any order", c, true, n)
		commit(t, c)
		for what, r := range map[string]reader{"": c, " of the journal": j, " of another cache": cache.New(j)} {
			same(t, "P5.3: Read"+what+" behind Commit", homes(t, r, 310), want...)
		}
		for _, picks := range [][]int{nil, slices.Repeat([]int{1}, 200), slices.Repeat([]int{0, 1}, 100)} {
			same(t, "P5.3: a Commit is for good", homes(t, opened(t, d.Crash(picks)), 310), want...)
		}
	}
}

// TestManyTransactions: far more than the journal's own blocks hold at once.
func TestManyTransactions(t *testing.T) {
	d, _, c := made(t, 330)
	want := make([]int, 330-first)
	for round := range 30 {
		at, size := 3*round%25, []int{1, 60, 7}[round%3]
		begin(t, c)
		run(t, c, first+at, size, round+1)
		if round%5 == 4 {
			abort(t, c)
		} else {
			commit(t, c)
			for i := range size {
				want[at+i] = round + 1 + i
			}
		}
		same(t, "P5.3: many transactions", homes(t, c, 330), want...)
		same(t, "P5.3: many transactions, for good", homes(t, opened(t, d.Crash(nil)), 330), want...)
	}
}

// TestCommitOff: whatever Commit answers, the transaction is over, and nothing of it is read.
func TestCommitOff(t *testing.T) {
	for cut := 0; ; cut++ {
		d, j, c := made(t, 310)
		begin(t, c)
		run(t, c, first, 5, 1)
		commit(t, c)
		before := homes(t, c, 310)
		begin(t, c)
		run(t, c, first+3, 4, 50)
		d.Cut(cut)
		e := c.Commit()
		is(t, "behind Commit, whatever it answered", c, false, 0)
		answers(t, "P5.3: behind Commit, whatever it answered", []api.Errno{c.Commit(), c.Abort(), c.Write(first, full(1))}, api.ErrState, api.ErrState, api.ErrState)
		if e == api.OK {
			return
		}
		if e != api.ErrOff || cut > 1000 {
			t.Fatalf("P5.3: Commit cut behind %d ops = %d", cut, e)
		}
		same(t, "P5.3: Read behind a Commit that was cut", homes(t, c, 310), before...)
		same(t, "P5.3: the journal behind a Commit that was cut", homes(t, j, 310), before...)
		d.Cut(1 << 20)
		begin(t, c)
		is(t, "Begin behind a Commit that was cut", c, true, 0)
		same(t, "P5.3: a transaction behind a Commit that was cut", homes(t, c, 310), before...)
		write(t, c, first, 70)
		answers(t, "P5.3: of a journal that is off for ever", []api.Errno{c.Commit(), c.Begin(), c.Commit(), c.Begin(), c.Write(0, nil), c.Abort()}, api.ErrOff, api.OK, api.OK, api.OK, api.ErrArg, api.OK)
		same(t, "P5.3: of a journal that is off for ever", homes(t, c, 310), before...)
	}
}

// TestWithoutPower: Begin, Read, Write and Abort need none.
func TestWithoutPower(t *testing.T) {
	d, _, c := made(t, 310)
	begin(t, c)
	write(t, c, 300, 3)
	commit(t, c)
	d.Cut(0)
	begin(t, c)
	write(t, c, 300, 4, 301, 5)
	is(t, "without power", c, true, 2)
	same(t, "P5.2: Read without power", homes(t, c, 310)[300-first:302-first], 4, 5)
	abort(t, c)
	same(t, "P5.3: Abort without power", homes(t, c, 310)[300-first:302-first], 3, 0)
	begin(t, c)
	write(t, c, 300, 6)
	d.Cut(1 << 20)
	commit(t, c)
	same(t, "P5.3: Commit, the power is back", homes(t, c, 310)[300-first:302-first], 6, 0)
}

// TestOthers: another cache of the same journal, the journal itself, and what a crash leaves see a transaction wholly, behind its Commit.
func TestOthers(t *testing.T) {
	d, j, c := made(t, 310)
	other := cache.New(j)
	before := homes(t, j, 310)
	nobody := func(what string) {
		t.Helper()
		for who, r := range map[string]reader{"another cache": other, "the journal": j, "a crash": opened(t, d.Crash(slices.Repeat([]int{1}, 300)))} {
			same(t, "P5.5: "+who+" "+what, homes(t, r, 310), before...)
		}
		is(t, "of another cache "+what, other, false, 0)
	}
	begin(t, c)
	nobody("behind Begin")
	for i := range 60 {
		write(t, c, first+i, i+1)
		nobody("behind Write")
	}
	abort(t, c)
	nobody("behind Abort")
	begin(t, c)
	run(t, c, first+4, 60, 2)
	for i := range 60 {
		before[4+i] = 2 + i
	}
	commit(t, c)
	nobody("behind Commit")
}

// TestTwoCaches: transactions of two caches of one journal have nothing in common; the later Commit holds.
func TestTwoCaches(t *testing.T) {
	_, j, a := made(t, 249)
	b := cache.New(j)
	begin(t, a)
	begin(t, b)
	write(t, a, 245, 1, 246, 1)
	write(t, b, 246, 2, 247, 2, 248, 2)
	is(t, "one of two", a, true, 2)
	is(t, "the other one", b, true, 3)
	same(t, "P5.5: one of two", homes(t, a, 249), 1, 1, 0, 0)
	same(t, "P5.5: the other one", homes(t, b, 249), 0, 2, 2, 2)
	commit(t, b)
	is(t, "one of two", a, true, 2)
	same(t, "P5.5: one of two, the other is committed", homes(t, a, 249), 1, 1, 2, 2)
	commit(t, a)
	same(t, "P5.5: both are committed", homes(t, b, 249), 1, 1, 2, 2)
	same(t, "P5.5: both are committed", homes(t, j, 249), 1, 1, 2, 2)
}

// TestNobody: a nil Cache, a zero one, and one of a nil journal, at every call, over and over.
func TestNobody(t *testing.T) {
	for what, c := range map[string]*cache.Cache{"nil": nil, "zero": {}, "of a nil journal": cache.New(nil)} {
		for range 3 {
			answers(t, "P5.4: "+what, []api.Errno{c.Begin(), c.Begin(), c.Write(300, full(1)), c.Write(0, nil), c.Commit(), c.Abort()}, api.ErrState, api.ErrState, api.ErrState, api.ErrState, api.ErrState, api.ErrState)
			for _, k := range append(noHomes(310), first, 300) {
				if b, e := c.Read(k); b != nil || e != api.ErrArg {
					t.Errorf("P5.4: %s: Read(%d) = %x, error %d", what, k, b, e)
				}
			}
			if c.Dirty() != 0 || c.Open() {
				t.Errorf("P5.4: %s: Dirty() = %d, Open() = %v", what, c.Dirty(), c.Open())
			}
		}
	}
}

// TestZeroJournal: it has no homes, but a transaction may be open.
func TestZeroJournal(t *testing.T) {
	c := cache.New(&journal.Journal{})
	begin(t, c)
	answers(t, "P5.2: of a journal without homes", []api.Errno{c.Write(first, full(1)), c.Write(0, full(1)), c.Begin()}, api.ErrArg, api.ErrArg, api.ErrState)
	is(t, "of a journal without homes", c, true, 0)
	if b, e := c.Read(first); b != nil || e != api.ErrArg {
		t.Errorf("P5.2: of a journal without homes: Read = %x, error %d", b, e)
	}
	commit(t, c)
}
