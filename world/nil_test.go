package world_test

import (
	"testing"

	"bollard/api"
	"bollard/world"
)

// TestNil: a nil and a zero World, in every call, at whatever arguments, and again when all was called.
func TestNil(t *testing.T) {
	for _, w := range []*world.World{nil, {}, new(world.World)} {
		for range 20 {
			isNone(t, w)
		}
	}
}

// isNone must be all calls of a world that is none.
func isNone(t *testing.T, w *world.World) {
	t.Helper()
	numbers := []int{least, -1, 0, 1, 2, 3, 4, 5, 16, most}
	for _, n := range numbers {
		w.Tick(n)
		w.Cut(n)
		if got, e := w.Open(); got != 0 || e != off {
			t.Fatalf("P23.4: Open() = %d %d, want ErrOff", got, e)
		}
		for _, p := range [][]byte{nil, {}, {0}, framed(), framed(99, 99), asked(topics()), asked(every()...), length(9000)} {
			if got, e := w.Feed(n, p); len(got) != 0 || e != off {
				t.Fatalf("P23.4: Feed(%d, %s) = %x %d, want ErrOff", n, brief(p), got, e)
			}
		}
		for _, topic := range []string{"a", "", "x/y", long(51)} {
			for _, part := range numbers {
				if done, e := w.Step(n, topic, part); done || e != off {
					t.Fatalf("P23.4: Step(%d, %q, %d) = %v %d, want ErrOff", n, topic, part, done, e)
				}
			}
		}
		for _, picked := range [][]int{nil, {}, {n}, {n, n}} {
			for _, cuts := range append(cutRows(), []int{n}) {
				if e := w.Crash(picked, cuts); e != off {
					t.Fatalf("P23.4: Crash(%v) = %d, want ErrOff", picked, e)
				}
			}
		}
		for _, r := range append(every(), api.Request{}, api.Request{Kind: n, ID: n}) {
			want := api.Response{Kind: r.Kind, ID: r.ID, Code: off}
			if told := w.Do(r); shown(told) != shown(want) {
				t.Fatalf("P23.4: Do(%s) = %s, want %s", short(r), shown(told), shown(want))
			}
		}
		if blocks, inodes := w.Free(); blocks != 0 || inodes != 0 {
			t.Fatalf("P23.4: Free() = %d %d, want 0 0", blocks, inodes)
		}
		if ops, now := w.Ops(), w.Now(); ops != 0 || now != 0 {
			t.Fatalf("P23.4: Ops() = %d, Now() = %d, want 0", ops, now)
		}
	}
}
