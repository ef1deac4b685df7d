package cache_test

import (
	"bytes"
	"slices"
	"testing"

	"bollard/api"
)

// TestHandedInStays: neither what is handed to Write nor its spare room is changed, whatever is answered and done behind it.
func TestHandedInStays(t *testing.T) {
	_, _, c := made(t, 320)
	whole := bytes.Repeat([]byte{0xee}, 2000)
	copy(whole[100:612], full(3))
	before := slices.Clone(whole)
	check := func(what string) {
		t.Helper()
		if !bytes.Equal(whole, before) {
			t.Fatalf("P5.5: %s changed bytes that were handed in, or their spare room", what)
		}
	}
	c.Write(300, whole[100:612])
	check("a Write without a transaction")
	for range 3 {
		begin(t, c)
		for k := range 320 {
			c.Write(k, whole[100:612])
			c.Write(k, whole[100:611])
			c.Write(k, whole[100:613])
		}
		check("Write")
		if b, e := c.Read(300); e != api.OK || told(b) != 3 {
			t.Errorf("P5.2: Read(300) = %x, error %d", b, e)
		} else {
			clear(b[:cap(b)])
		}
		check("a change of what Read answered")
		write(t, c, 300, 9)
		check("another Write")
		commit(t, c)
		check("Commit")
	}
}

// TestHandedInIsNotKept: what becomes of it behind Write is nothing to the transaction.
func TestHandedInIsNotKept(t *testing.T) {
	d, j, c := made(t, 249)
	begin(t, c)
	b := full(5)
	for k := first; k < 249; k++ {
		if e := c.Write(k, b); e != api.OK {
			t.Fatalf("P5.2: Write(%d) = %d", k, e)
		}
		copy(b, full(6+k-first))
	}
	clear(b)
	same(t, "P5.5: what was handed in was kept", homes(t, c, 249), 5, 6, 7, 8)
	commit(t, c)
	copy(b, full(99))
	same(t, "P5.5: what was handed in was kept, behind Commit", homes(t, c, 249), 5, 6, 7, 8)
	same(t, "P5.5: what was handed in was kept by the journal", homes(t, j, 249), 5, 6, 7, 8)
	same(t, "P5.5: what was handed in was kept, for good", homes(t, opened(t, d.Crash(nil)), 249), 5, 6, 7, 8)
}

// TestAnsweredIsNew: what Read answers is nobody else's, ahead of a transaction, within it and behind it.
func TestAnsweredIsNew(t *testing.T) {
	d, j, c := made(t, 249)
	check := func(what string, v ...int) {
		t.Helper()
		for k := first; k < 249; k++ {
			a, _ := c.Read(k)
			b, _ := c.Read(k)
			kept := slices.Clone(b)
			a[0] ^= 1
			clear(a[1:cap(a)])
			if !bytes.Equal(b, kept) {
				t.Errorf("P5.5: %s: two answers of Read(%d) are one memory", what, k)
			}
		}
		same(t, "P5.5: "+what+": what Read answered was kept", homes(t, c, 249), v...)
	}
	check("at first", 0, 0, 0, 0)
	begin(t, c)
	write(t, c, 246, 6, 248, 8)
	check("in a transaction", 0, 6, 0, 8)
	early, _ := c.Read(246)
	write(t, c, 246, 60)
	if told(early) != 6 {
		t.Error("P5.5: another Write changed what Read had answered")
	}
	commit(t, c)
	if told(early) != 6 {
		t.Error("P5.5: Commit changed what Read had answered")
	}
	check("behind Commit", 0, 60, 0, 8)
	same(t, "P5.5: the journal", homes(t, j, 249), 0, 60, 0, 8)
	same(t, "P5.5: for good", homes(t, opened(t, d.Crash(nil)), 249), 0, 60, 0, 8)
}

// TestOpsAreTheSame: what a cut leaves hangs on what was written, not on the order of a map, nor of the writes.
func TestOpsAreTheSame(t *testing.T) {
	left := func(cut int, turned bool) (out []byte) {
		d, _, c := made(t, 310)
		begin(t, c)
		var l []int
		for i := range 30 {
			l = append(l, first+2*i)
		}
		if turned {
			slices.Reverse(l)
		}
		for _, k := range l {
			write(t, c, k, k)
		}
		d.Cut(cut)
		c.Commit()
		for k := range 310 {
			b, _ := d.Read(k)
			out = append(out, b...)
		}
		return out
	}
	for cut := range 40 {
		once := left(cut, false)
		for i := range 4 {
			if !bytes.Equal(left(cut, i%2 == 1), once) {
				t.Fatalf("what a cut behind %d ops leaves is not the same twice", cut)
			}
		}
	}
}
