package world_test

import (
	"testing"

	"bollard/api"
)

// TestOpen: up to 16 are open at once; closed ones make room, and their numbers do not come again.
func TestOpen(t *testing.T) {
	k := made(t, 900, 100)
	for range 18 {
		k.opens("P23.1")
	}
	for _, n := range []int{3, 15, 0} {
		k.feeds("P23.1", n, length(maxFrame+1))
		k.feeds("P23.1", n, asked(topics()))
	}
	for range 5 {
		k.opens("P23.1")
	}
	for _, n := range []int{least, -1, 0, 1, 3, 15, 16, 18, 19, 1 << 32, most} {
		k.feeds("P23.1", n, nil, asked(topics()), framed(9), length(9000))
	}
}

// TestLinesGone: behind a crash all connections are gone, and what waited in them; numbers go on, and 16 may be open again.
func TestLinesGone(t *testing.T) {
	k := stock(t)
	k.opens("P23.1") // 2
	half := asked(create("half", 1, keeps()))
	for round := range 6 {
		for len(k.m.wait) < maxConns {
			n := k.opens("P23.3")
			k.feeds("P23.3", n, asked(topics()), half[:20])
		}
		if n, e := k.w.Open(); n != 0 || e != full {
			t.Fatalf("P23.1: the 17th Open() = %d %d, want ErrFull", n, e)
		}
		if round%2 == 1 { // numbers that were closed go on, too
			k.feeds("P23.3", k.m.next-1, asked(topics()), length(1<<31))
		}
		k.crashes("P23.3", []int{1, 0, 1}, []int{0, 1, -1}[:round%4])
		for n := -2; n < k.m.next+3; n++ {
			if got, e := k.w.Feed(n, asked(topics())); len(got) != 0 || e != none {
				t.Fatalf("P23.3: behind a crash Feed(%d) = %x %d, want ErrNone", n, got, e)
			}
			k.feeds("P23.3", n, nil, half[9:], half)
		}
		was := k.m.next
		if n := k.opens("P23.3"); n != was {
			t.Fatalf("P23.3: behind a crash Open() = %d, want %d", n, was)
		}
		k.feeds("P23.3", was, half[20:], asked(topics())) // with what waited ahead of the crash it would be a request
		k.is("P23.5")
	}
	if told := k.w.Do(remove("half")); told.Code != none {
		t.Errorf("P23.3: half a frame became a request: %s", shown(told))
	}
	k.goesOn("P23.5")
}

// TestLinesNone: crashes of a world without connections let the numbers be as they are.
func TestLinesNone(t *testing.T) {
	k := made(t, 900, 100)
	for range 3 {
		k.crashes("P23.3", nil, []int{0})
		k.feeds("P23.3", 0, nil)
	}
	for want := range 3 {
		if n := k.opens("P23.3"); n != want {
			t.Fatalf("P23.3: Open() = %d, want %d", n, want)
		}
		k.crashes("P23.3", nil, nil)
		k.crashes("P23.3", nil, nil)
	}
}

// TestLinesOff: connections of a world that is off may be opened still, and tell nothing; behind the crash their numbers go on.
func TestLinesOff(t *testing.T) {
	for _, try := range []attempt{byFeed(0, remove("a")), byDo(remove("a")), byStep(sweep, "", 0)} {
		k := stock(t)
		k.cuts(0)
		if _, row := try(k); len(row) != 2 {
			t.Fatal("P23.2: a call did without power")
		}
		k.isOff("P23.2")
		for range 16 {
			k.opens("P23.1")
		}
		k.isOff("P23.2")
		k.crashes("P23.3", nil, nil)
		if n := k.opens("P23.3"); n != maxConns {
			t.Fatalf("P23.3: Open() = %d, want %d", n, maxConns)
		}
		k.is("P23.5")
		k.goesOn("P23.5")
	}
}

// TestText: two bytes that are no request are answered by an error; a length of 9000 closes that connection alone.
func TestText(t *testing.T) {
	k := stock(t)
	if got := k.feeds("P23.1", 0, framed(99, 99)); string(got) != string(told(api.Response{Code: text})) {
		t.Fatalf("P23.1: what is no request is answered by %x", got)
	}
	k.feeds("P23.1", 0, length(9000), asked(topics()))
	k.feeds("P23.1", 1, asked(topics()))
	k.is("P23.1")
}
