package conns_test

import (
	"bytes"
	"slices"
	"testing"
)

// fill writes over bytes and their spare room, and appends to them.
func fill(b []byte) {
	_ = append(b, 0xEE, 0xEE)
	all := b[:cap(b)]
	for i := range all {
		all[i] = 0xEE
	}
}

// guarded is bytes with others ahead of and behind them, in one piece of memory.
func guarded(b []byte) (all, mine []byte) {
	all = slices.Concat([]byte("ahead"), b, []byte("spare room"))
	return all, all[5 : 5+len(b)]
}

// TestHandedIn: pieces stay as they are, and so does what is around them; written over, they change nothing that is told later.
func TestHandedIn(t *testing.T) {
	old := stock(t)
	for i, row := range append(someRows(), framed(make([]byte, maxFrame)...), asked(add("a", 0, 0, 0, sized(6000)...), fetch("a", 0, 8, 7000))) {
		for _, apart := range []int{2, 5, 40, 1000, 20000} {
			x := dice(apart)
			k := old.fork(2)
			for _, p := range x.pieces(row, apart) {
				all, mine := guarded(p)
				was := slices.Clone(all)
				k.feeds("P22.4", 1, 5, mine)
				if !bytes.Equal(all, was) {
					t.Fatalf("P22.4: row %d: Feed changed what was handed in: %q, was %q", i, all, was)
				}
				fill(all)
			}
			k.is("P22.4")
		}
	}
}

// TestAnswered: answers are new memory: written over, they change neither what is told later nor what was told before.
func TestAnswered(t *testing.T) {
	k := stock(t)
	piece := slices.Concat(asked(every()...), framed(9))
	var kept, was [][]byte
	for i := range 30 {
		all, mine := guarded(piece)
		before := slices.Clone(all)
		got := k.feeds("P22.4", i%2, 5, framed(9), mine[:100+i], mine[100+i:])
		kept, was = append(kept, got), append(was, slices.Clone(got))
		want, _ := k.m.feed(i%2, piece, 5)
		one, _ := k.c.Feed(i%2, mine, 5)
		if !bytes.Equal(one, want) {
			t.Fatalf("P22.4: round %d: %s, want %s", i, short(one), short(want))
		}
		fill(one)
		if !bytes.Equal(all, before) {
			t.Fatalf("P22.4: what was handed in changes with what was answered")
		}
		two, _ := k.c.Feed(i%2, framed(9), 5)
		three, _ := k.c.Feed(i%2, framed(9), 5)
		fill(two)
		if !bytes.Equal(three, k.m.answer([]byte{9}, 5)) {
			t.Fatalf("P22.4: an answer changes with the one before it: %x", three)
		}
	}
	for i := range kept {
		if !bytes.Equal(kept[i], was[i]) {
			t.Fatalf("P22.4: what was answered in round %d is\n %s, was\n %s", i, short(kept[i]), short(was[i]))
		}
	}
	k.is("P22.4")
	k.goesOn("P22.4")
}

// TestApart: connections of different Conns, and of one, have nothing in common.
func TestApart(t *testing.T) {
	one, two := stock(t), stock(t)
	half := asked(create("half", 1))
	one.feeds("P22.3", 0, 0, half[:10])
	two.feeds("P22.3", 0, 0, length(9000))
	one.asks("P22.3", 1, 0, every()...)
	one.feeds("P22.3", 0, 0, half[10:])
	two.d.Cut(0)
	two.c.Feed(1, asked(create("x", 1)), 0)
	two.isDead("P22.2")
	one.is("P22.3")
	one.goesOn("P22.3")
}
