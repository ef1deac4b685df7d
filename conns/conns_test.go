package conns_test

import (
	"bytes"
	"slices"
	"testing"

	"bollard/api"
)

// TestExample is the chapter's.
func TestExample(t *testing.T) {
	k := made(t, 900, 100)
	k.opens("P22.1")
	if got := k.feeds("P22.1", 0, 0, framed(99, 99)); !bytes.Equal(got, []byte{0, 0, 0, 6, 0, 0, 0, 0, 0, 13}) {
		t.Errorf("P22.1: a frame of 99 99 is answered by %x", got)
	}
}

// TestNumbers: 16 connections and one more; a closed one makes room, and its number does not come again.
func TestNumbers(t *testing.T) {
	k := made(t, 900, 100)
	for want := range 16 {
		if got := k.opens("P22.1"); got != want {
			t.Fatalf("P22.1: Open() = %d, want %d", got, want)
		}
	}
	refused := func() {
		t.Helper()
		for range 3 {
			if n, e := k.c.Open(); n != 0 || e != full {
				t.Fatalf("P22.1: Open() with 16 that are open = %d %d", n, e)
			}
		}
	}
	refused()
	wrong := length(maxFrame + 1)
	for i, n := range []int{3, 0, 15, 16, 18, 7} { // some of these were opened behind others that were closed
		k.feeds("P22.1", n, 0, wrong)
		if got := k.opens("P22.1"); got != 16+i {
			t.Fatalf("P22.1: Open() = %d, want %d", got, 16+i)
		}
		refused()
	}
	for n := range 10 { // those that are closed already stay so
		k.feeds("P22.1", n, 0, wrong)
	}
	for len(k.m.wait) < maxConns {
		k.opens("P22.1")
	}
	refused()
	k.is("P22.2")
	for range 300 {
		for n := range k.m.next {
			k.feeds("P22.1", n, 0, wrong)
		}
		for range maxConns {
			k.opens("P22.1")
		}
		refused()
		if k.m.next > 200 {
			break
		}
	}
	k.asks("P22.1", k.m.next-1, 0, every()...)
	k.is("P22.2")
}

// TestNotOpen: numbers that were never told, and those of closed connections.
func TestNotOpen(t *testing.T) {
	k := stock(t)
	k.opens("P22.1")
	k.feeds("P22.1", 2, 0, length(1<<32-1))
	ops := k.d.Ops()
	for _, n := range []int{least, least + 1, -1 << 32, -17, -2, -1, 2, 3, 4, 15, 16, 17, 1 << 32, 1<<32 + 1, most - 1, most} {
		for _, p := range [][]byte{nil, {}, {0}, framed(), framed(99), asked(create("new", 1)), length(1 << 31)} {
			if got, e := k.c.Feed(n, p, 0); got != nil || e != none {
				t.Fatalf("P22.1: Feed(%d, %x) = %x %d, want ErrNone", n, p, got, e)
			}
		}
		if closed := k.c.Closed(n); closed != (n == 2) {
			t.Fatalf("P22.2: Closed(%d) = %v", n, closed)
		}
	}
	if k.d.Ops() != ops {
		t.Fatalf("P22.1: what was fed to no connection wrote")
	}
	// What was fed to a number ahead of its Open is not known.
	k.opens("P22.1")
	k.asks("P22.1", 3, 0, topics())
	k.is("P22.1")
	k.goesOn("P22.1")
}

// TestEvery: requests of all Kinds, each alone and all in one piece.
func TestEvery(t *testing.T) {
	old := stock(t)
	k := old.fork(2)
	k.asks("P22.1", 1, 5, every()...)
	k.is("P22.1")
	k = old.fork(2)
	k.feeds("P22.1", 1, 5, asked(every()...))
	k.is("P22.1")
	k.goesOn("P22.1")
}

// TestIDs: each is told as it was, of whatever Kind and Code.
func TestIDs(t *testing.T) {
	k := stock(t)
	for _, r := range append(every(), every()...) {
		for _, id := range []int{0, 1, 255, 256, 1 << 31, 1<<32 - 1} {
			r.ID = id
			k.asks("P22.1", 0, 5, r)
		}
	}
	k.is("P22.1")
}

// TestNone: frames that are no requests change nothing, and those behind them are answered.
func TestNone(t *testing.T) {
	k := stock(t)
	refuses := func(b []byte) {
		t.Helper()
		ops := k.d.Ops()
		got := k.feeds("P22.1", 1, 0, slices.Concat(framed(b...), asked(topics())))
		want := append(told(api.Response{Code: text}), told(k.m.q.do(topics(), 0))...)
		if !bytes.Equal(got, want) || k.d.Ops() != ops {
			t.Fatalf("P22.3: %x, which is no request, is answered by %s (%d ops)", b, short(got), k.d.Ops()-ops)
		}
	}
	refuses(nil)
	for n := range 256 {
		refuses([]byte{byte(n)})
	}
	for _, r := range every() {
		b := laidRequest(r)
		refuses(append(slices.Clone(b), 0))
		refuses(append(slices.Clone(b), 255))
		refuses(append(slices.Clone(b), b...))
		for _, n := range []byte{0, 9, 10, 99, 128, 255} {
			refuses(append([]byte{n}, b[1:]...))
		}
	}
	for _, size := range []int{2, 5, 6, maxFrame - 1, maxFrame} {
		for _, v := range []byte{0, 1, 3, 255} {
			if size > 5 || v != 3 {
				refuses(bytes.Repeat([]byte{v}, size))
			}
		}
	}
	k.is("P22.3")
}

// TestChanged: requests that lack bytes, or with one byte changed, are answered as what they are then.
func TestChanged(t *testing.T) {
	old := stock(t)
	for i, r := range every() {
		k := old.fork(1)
		b := laidRequest(r)
		for n := range b {
			k.feeds("P22.3", 0, 5, framed(b[:n]...))
			for _, by := range []byte{1, 2, 128, 255} {
				c := slices.Clone(b)
				c[n] ^= by
				k.feeds("P22.3", 0, 5, framed(c...))
			}
		}
		if i%4 == 0 {
			k.is("P22.3")
		}
	}
}

// TestNow: the time that is told with a piece is that of all requests that end in it.
func TestNow(t *testing.T) {
	k := stock(t)
	for _, now := range []int{0, 1, end - 1, end, end + 1, most, -1, least} {
		k.asks("P22.1", 0, now, every()...)
		k.feeds("P22.1", 0, now, asked(commit("g", "a", 0, 1), offset("g", "a", 0), commit("h", "a", 0, 2), offset("h", "a", 0)))
	}
	b := asked(create("n", 1), commit("g", "n", 0, 5))
	for _, x := range [][2]int{{-1, 0}, {0, -1}, {end + 1, end}, {end, end + 1}} { // the time of the last piece counts
		k.feeds("P22.1", 0, x[0], b[:len(b)-1])
		k.feeds("P22.1", 0, x[1], b[len(b)-1:])
	}
	k.is("P22.1")
}
