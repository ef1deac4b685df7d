package world_test

import (
	"testing"

	"bollard/api"
	"bollard/world"
)

// TestExample is the chapter's, at each op of the append: what is cut off is no answer, by Do and by Feed; behind the crash it is there, or is not.
func TestExample(t *testing.T) {
	seen := [2]int{}
	for i := range 64 {
		w, e := world.New(2000, 200)
		if e != ok {
			t.Fatalf("P23.1: New(2000, 200) = %d", e)
		}
		conn, _ := w.Open()
		if told := w.Do(create("a", 1, keeps())); told.Code != ok {
			t.Fatalf("P23.1: a create is answered by %s", shown(told))
		}
		r := add("a", 0, 0, 0, rec("k", "v", 1))
		w.Cut((3 + i) % 8) // it takes eight ops
		if i/8%2 == 0 {
			if told := w.Do(r); shown(told) != shown(api.Response{Kind: 4, ID: 14, Code: off}) {
				t.Fatalf("P23.2: an append that is cut off is answered by %s", shown(told))
			}
		} else if b, e := w.Feed(conn, asked(r)); len(b) != 0 || e != ok {
			t.Fatalf("P23.2: an append that is cut off is answered by %x %d", b, e)
		}
		if e := w.Crash([]int{i / 16, i / 2, 1}, []int{i % 3, 0, 5}[:i%4]); e != ok {
			t.Fatalf("P23.3: Crash = %d", e)
		}
		names, told := w.Do(topics()), w.Do(fetch("a", 0, 0, 1000))
		if shown(names) != shown(api.Response{Kind: 3, ID: 13, Topics: []string{"a"}, Parts: []int{1}}) {
			t.Fatalf("P23.5: behind the crash the topics are %s", shown(names))
		}
		if told.Code != ok || told.Next != len(told.Batches) || told.Next > 1 {
			t.Fatalf("P23.5: behind the crash the log is %s", shown(told))
		}
		seen[told.Next]++
		if told := w.Do(r); told.Code != ok || told.Offset != told.Next-1 {
			t.Fatalf("P23.3: behind the crash an append is answered by %s", shown(told))
		}
	}
	if seen[0] == 0 || seen[1] == 0 {
		t.Errorf("P23.5: the append was there %d times, and not %d times", seen[1], seen[0])
	}
}

// TestNewCodes: which errors New tells, as the chapters 3, 6 and 10 say them.
func TestNewCodes(t *testing.T) {
	for _, x := range []struct {
		blocks, inodes int
		want           api.Errno
	}{
		{least, 10, arg}, {-1, 10, arg}, {0, 10, arg}, {65537, 10, arg}, {most, 10, arg}, {1 << 32, 10, arg}, {1<<32 + 1000, 10, arg},
		{1000, least, arg}, {1000, -1, arg}, {1000, 0, arg}, {1000, 4097, arg}, {1000, most, arg}, {1000, 1<<32 + 1, arg},
		{1, 0, arg}, {0, 0, arg}, {65537, 4097, arg}, {1, 4097, arg},
		{1, 1, full}, {245, 1, full}, {248, 8, full}, {249, 1, full}, {249, 9, full}, // no room for a file system
		{250, 1, full}, {65536, 1, full}, {1000, 2, full}, // no room for a broker
		{1000, 60, ok}, {65536, 60, ok}, {65535, 4096, ok}, {65536, 4096, ok}, {2000, 200, ok},
	} {
		w, e := world.New(x.blocks, x.inodes)
		if e != x.want || (w == nil) != (e != ok) {
			t.Errorf("P23.1: New(%d, %d) = %v %d, want %d", x.blocks, x.inodes, w, e, x.want)
		}
	}
}

// newIs holds New against the layers' own errors, in their order, and what it makes against what they make.
func newIs(t *testing.T, blocks, inodes int) api.Errno {
	t.Helper()
	l, want := newLayers(blocks, inodes)
	w, e := world.New(blocks, inodes)
	if e != want || (w == nil) != (e != ok) {
		t.Fatalf("P23.1: New(%d, %d) = %v %d, want %d", blocks, inodes, w, e, want)
	}
	if e == ok {
		k := &kit{t, w, l, newModel()}
		k.level("P23.1", "New")
		k.is("P23.1")
		k.feeds("P23.1", 0, nil)
		k.opens("P23.1")
	}
	return e
}

// TestNewEdges: blocks and inodes at and around all edges.
func TestNewEdges(t *testing.T) {
	blocks := []int{least, least + 1, -1 << 32, -2, -1, 0, 1, 2, 8, 244, 245, 246, 247, 248, 249, 250, 300, 4341, 4342, 4343, 65535, 65536, 65537, 1 << 17, 1 << 32, 1<<32 + 300, most - 1, most}
	inodes := []int{least, least + 1, -1 << 32, -1, 0, 1, 2, 5, 6, 7, 8, 9, 64, 4095, 4096, 4097, 8192, 1<<32 + 64, most}
	for _, n := range blocks {
		for _, i := range inodes {
			newIs(t, n, i)
		}
	}
}

// TestNewLeast: around the least worlds that there are, each size.
func TestNewLeast(t *testing.T) {
	seen := map[api.Errno]int{}
	for n := 246; n < 275; n++ {
		for i := 1; i < 20; i++ {
			seen[newIs(t, n, i)]++
		}
	}
	if seen[ok] == 0 || seen[full] == 0 || len(seen) != 2 {
		t.Errorf("P23.1: New around the least worlds tells %v", seen)
	}
}

// TestLeastWorld: a world with hardly any room refuses as the layers do.
func TestLeastWorld(t *testing.T) {
	for n := 262; n < 290; n += 3 {
		l, e := newLayers(n, 12)
		if e != ok {
			t.Fatalf("the test's own device of %d blocks has no room: %d", n, e)
		}
		w, _ := world.New(n, 12)
		k := &kit{t, w, l, newModel()}
		for _, r := range append([]api.Request{create("a", 1, keeps()), create("b", 2, keeps()), commit("g", "a", 0, 5)}, every()...) {
			for range 3 {
				if want, got := shown(l.b.Do(r, 0)), shown(w.Do(r)); got != want {
					t.Fatalf("P23.1: %d blocks: Do(%s) = %.500s, want %.500s", n, short(r), got, want)
				}
				k.level("P23.1", "Do")
			}
		}
		k.crashes("P23.3", []int{1, 1, 1}, []int{0, 1})
	}
}

// TestNewApart: worlds have nothing in common.
func TestNewApart(t *testing.T) {
	one, two := stock(t), made(t, 900, 100)
	two.ticks("P23.1", 5)
	two.cuts(0)
	if e := two.w.Do(create("x", 1, keeps())).Code; e != off {
		t.Fatalf("P23.2: cut off, Do = %d", e)
	}
	one.is("P23.1")
	one.goesOn("P23.1")
	two.crashes("P23.3", nil, nil)
	one.crashes("P23.3", nil, nil)
	one.is("P23.3")
	two.l.b.Do(create("x", 1, keeps()), 0)
	if told := two.w.Do(topics()); len(told.Topics) != 0 {
		t.Errorf("P23.5: the other world has %s", shown(told))
	}
}

// TestTick: the time goes on by what is above 0, up to MaxTime.
func TestTick(t *testing.T) {
	for _, l := range [][]int{
		{0, 0, -1, least, -end, 1, 0, 1, 1, -1, 7, -7},
		{end, 1, end, most, -1, least, 0},
		{end - 1, 1, 1},
		{end - 1, 2, 0, -5},
		{end + 1, end + 1},
		{most, most, most, most},
		{1, most, most, -1, 1},
		{5, end - 6, 1, 1, 1},
		{5, most - 4, 3},
		{5, most - 5, 3},
		{1 << 49, 1 << 49, 1 << 49},
		{1<<32 - 1, 1, 1 << 33},
	} {
		k := made(t, 600, 60)
		k.ticks("P23.1", l...)
		k.asks("P23.1", create("a", 1, keeps()), commit("g", "a", 0, 5)) // a time above MaxTime would be refused
		k.ticks("P23.1", l...)
		k.asks("P23.1", commit("g", "a", 0, 6), offset("g", "a", 0))
		k.crashes("P23.3", nil, nil)
		k.ticks("P23.3", l...)
	}
}

// TestEvery: requests of all Kinds, by Do and by Feed, alone and in one piece.
func TestEvery(t *testing.T) {
	k := stock(t)
	k.asks("P23.1", every()...)
	k.asks("P23.1", api.Request{}, api.Request{Kind: 9, ID: most}, api.Request{Kind: -1, ID: least}, api.Request{Kind: 99, Topic: "a"})
	k.is("P23.1")
	k = stock(t)
	for _, r := range every() {
		k.feeds("P23.1", 1, asked(r))
	}
	k.is("P23.1")
	k = stock(t)
	k.feeds("P23.1", 1, asked(every()...), framed(), framed(9, 9), framed(make([]byte, maxFrame)...))
	k.is("P23.1")
	k.goesOn("P23.1")
}

// TestFedTime: the time of a piece is the world's when the piece comes.
func TestFedTime(t *testing.T) {
	k := made(t, 900, 100)
	conn := k.opens("P23.1")
	k.asks("P23.1", create("s", 1, api.Settings{Segment: 512, Bytes: -1, Age: 0}))
	for i := range 40 { // committed at times that Tidy tells by nothing, so the model's own logs are held as well
		b := asked(commit("g", "s", 0, i), add("s", 0, 0, 0, rec("k", long(400), k.m.now)))
		k.feeds("P23.1", conn, b[:10])
		k.ticks("P23.1", i%3)
		k.feeds("P23.1", conn, b[10:])
		k.steps("P23.2", retain, "s", 0)
	}
	k.is("P23.1")
}
