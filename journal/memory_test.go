package journal_test

import (
	"bytes"
	"slices"
	"testing"

	"bollard/api"
	"bollard/journal"
)

// TestHandedInStays: neither the list, nor its Data, nor their spare room is changed, whatever is answered.
func TestHandedInStays(t *testing.T) {
	d := formatted(t, 310)
	j := opened(t, d)
	for round := range 12 {
		whole := bytes.Repeat([]byte{0xee}, 4000)
		a, b := whole[100:612], whole[1000:1512]
		copy(a, full(round))
		copy(b, full(round+1))
		list := make([]journal.Change, 2, 9)
		list[0], list[1] = journal.Change{Block: 300, Data: a}, journal.Change{Block: 250, Data: b}
		if round%3 == 2 {
			list[1].Block = 300
		}
		before := slices.Clone(whole)
		e := j.Commit(list)
		if must := []api.Errno{api.OK, api.OK, api.ErrArg}[round%3]; e != must {
			t.Fatalf("P4.2: Commit = %d, want %d", e, must)
		}
		if !bytes.Equal(whole, before) {
			t.Error("P4.7: Commit changed bytes that were handed in, or their spare room")
		}
		if list[0].Block != 300 || &list[0].Data[0] != &a[0] || &list[1].Data[0] != &b[0] || len(list[0].Data) != 512 {
			t.Error("P4.7: Commit changed the list that was handed in")
		}
		for _, c := range list[:cap(list)][2:] {
			if c.Block != 0 || c.Data != nil {
				t.Error("P4.7: Commit changed the list's spare room")
			}
		}
		r, _ := j.Read(300)
		clear(r[:cap(r)])
		if !bytes.Equal(whole, before) {
			t.Error("P4.7: Read handed out what was handed in")
		}
	}
}

// TestHandedInIsNotKept: what becomes of it behind the call is nothing to the journal.
func TestHandedInIsNotKept(t *testing.T) {
	d := formatted(t, 250)
	j := opened(t, d)
	for round := range 12 {
		l := list(246, round+1, 248, round+2)
		commit(t, j, l)
		clear(l[0].Data)
		l[1].Data[5] ^= 255
		l[0].Block, l[1].Block = 247, 247
		same(t, "P4.7: what was handed in was kept", homes(t, j, 250), 0, round+1, 0, round+2, 0)
		if round%5 == 4 {
			sync(t, j)
		}
		same(t, "P4.7: what was handed in was kept", homes(t, opened(t, d.Crash(nil)), 250), 0, round+1, 0, round+2, 0)
	}
}

// TestAnsweredIsNew: what Read answers is nobody else's.
func TestAnsweredIsNew(t *testing.T) {
	d := formatted(t, 250)
	j := opened(t, d)
	commit(t, j, list(246, 6))
	for round := range 3 {
		for k := first; k < 250; k++ {
			a, _ := j.Read(k)
			b, _ := j.Read(k)
			a[0] ^= 1
			clear(a[1:cap(a)])
			c, _ := j.Read(k)
			if !bytes.Equal(b, c) {
				t.Errorf("P4.7: round %d: what Read(%d) answered was kept", round, k)
			}
		}
		same(t, "P4.7: behind changes of what was answered", homes(t, opened(t, d.Crash(nil)), 250), 0, 6, 0, 0, 0)
		if round == 0 {
			sync(t, j)
		} else {
			j = opened(t, d)
		}
	}
}

// TestOpsAreTheSame: what is done hangs on what was done ahead of it, not on the order of a map.
func TestOpsAreTheSame(t *testing.T) {
	left := func(cut int) (out []byte) {
		d := formatted(t, 310)
		j := opened(t, d)
		for i := range 4 {
			commit(t, j, run(first+3*i, 20, 10*i+1))
		}
		d.Cut(cut)
		j.Commit(run(first, 30, 100))
		for k := range 310 {
			b, _ := d.Read(k)
			out = append(out, b...)
		}
		return out
	}
	for cut := range 70 {
		once := left(cut)
		for range 3 {
			if !bytes.Equal(left(cut), once) {
				t.Fatalf("what a cut behind %d ops leaves is not the same twice", cut)
			}
		}
	}
}
