package broker_test

import (
	"fmt"
	"testing"

	"bollard/api"
	"bollard/bits"
	"bollard/cache"
	"bollard/journal"
	"bollard/layout"
)

// tries asks what may be refused for room: then nothing was written, and nothing but the Code is told.
func (k *kit) tries(promise string, now int, r api.Request) api.Errno {
	k.t.Helper()
	ops := k.d.Ops()
	told := k.b.Do(r, now)
	want := api.Response{Kind: r.Kind, ID: r.ID, Code: full}
	if told.Code != full {
		want = k.q.do(r, now)
	} else if k.d.Ops() != ops {
		k.t.Fatalf("%s: what was refused for room wrote by %d ops", promise, k.d.Ops()-ops)
	}
	if shown(told) != shown(want) {
		k.t.Fatalf("%s: Do(%s):\n got %.500s\nwant %.500s", promise, short(r), shown(told), shown(want))
	}
	return told.Code
}

// greedy are requests that need room, of each Kind that may.
func greedy() map[string]api.Request {
	return map[string]api.Request{
		"create 1":      create("new", 1, keeps()),
		"create 8":      create("new", 8, mostSet()),
		"append":        add("a", 0, 0, 0, rec("k", "v", 1)),
		"append great":  add("a", 0, 0, 0, sized(6000)...),
		"known":         add("a", 0, 7, 6, sized(6000)...),
		"new producer":  add("a", 0, 8, 0, sized(6000)...),
		"first":         add("s", 0, 8, 0, rec("k", "v", 1)),
		"second":        add("a", 1, 22, 0, bare("", 3)), // the producers' file goes on in another block
		"within":        add("a", 1, 1, 1, bare(long(150), 3)),
		"commit":        commit("new", "a", 0, 5),
		"commit longer": commit(long(50), "a", 1, end),
	}
}

// mostSet are the greatest settings.
func mostSet() api.Settings {
	return api.Settings{Segment: 8192, Bytes: 1 << 40, Age: end, Compact: true, Delay: end}
}

// cramped is a broker with something in it, and the files by which blocks are taken; in a 1 there are 21 producers, so that the next one's row goes on in another block.
func cramped(t *testing.T) *kit {
	t.Helper()
	k := stock(t, 900, 150)
	for i := range 15 {
		k.asks("P21.2", 0, add("a", 1, 7+i, 0, bare("", 3)))
	}
	k.prepares()
	return k
}

// TestFull: each request with no data block free, with one, and so on: refused, nothing has changed; else it is done. What is enough once is enough with more.
func TestFull(t *testing.T) {
	old := cramped(t)
	for name, r := range greedy() {
		need := -1
		for left := 0; need < 0 || left < need+3; left++ {
			k := old.fork()
			k.takes(left)
			was := k.raw("/")
			e := k.tries("P21.2", 5, r)
			if e == full {
				k.same("P21.2", "what is refused for room", k.raw("/"), was)
			}
			switch {
			case e == ok && need < 0:
				need = left
			case e == full && need >= 0:
				t.Fatalf("P21.2: %s: %d blocks are enough, %d are not", name, need, left)
			case e != ok && e != full || left == 40:
				t.Fatalf("P21.2: %s with %d blocks = %d", name, left, e)
			}
			k.again("P21.2")
			if e == full { // with room again it is done
				k.do(k.f.Truncate("/fill/0", 0), k.f.Truncate("/fill/1", 0), k.f.Truncate("/fill/2", 0))
				k.answers("P21.2", ok, 5, r)
				k.again("P21.2")
			}
		}
		if least := needs(name); need < least {
			t.Errorf("P21.2: %s needs %d blocks, and not %d", name, need, least)
		}
	}
}

// needs is how many blocks a greedy request takes at least.
func needs(name string) int {
	switch name {
	case "create 1", "second", "first":
		return 1
	case "create 8":
		return 8
	case "append great", "known":
		return 13 // with one of numbers
	case "new producer":
		return 13
	}
	return 0
}

// TestUndone: a batch for which there is room, but not for its producer's number, is not in the log, nor is the number known; in an empty segment, and where it would begin a new one.
func TestUndone(t *testing.T) {
	old := cramped(t)
	old.asks("P21.2", 0, create("e", 1, keeps()))
	for _, x := range []struct {
		topic    string
		part     int
		producer int
	}{{"e", 0, 8}, {"a", 1, 22}} {
		nobodys := add(x.topic, x.part, 0, 0, sized(700)...)
		batch := add(x.topic, x.part, x.producer, 0, sized(700)...)
		left := old.enough(nobodys)
		k := old.fork()
		k.takes(left)
		next := k.q.topics[x.topic].logs[x.part].next()
		for range 3 {
			if e := k.tries("P21.6", 0, batch); e != full {
				t.Fatalf("P21.2: with %d blocks = %d, want ErrFull", left, e)
			}
			if told := k.asks("P21.6", 0, fetch(x.topic, x.part, next, most)); told.Next != next || len(told.Batches) > 0 {
				t.Errorf("P21.6: what was refused is in the log: %s", shown(told))
			}
			k.is("P21.6")
			k.fork().is("P21.6")
		}
		fork := k.fork()
		fork.answers("P21.2", ok, 0, nobodys)
		fork.again("P21.6")
		k.do(k.f.Truncate("/fill/0", 0))
		k.answers("P21.2", gap, 0, add(x.topic, x.part, x.producer, 1, sized(700)...))
		k.answers("P21.2", ok, 0, batch, batch)
		k.again("P21.6")
	}
}

// enough is with how many data blocks a request is done, but not with one less.
func (k *kit) enough(r api.Request) int {
	k.t.Helper()
	for left := 0; ; left++ {
		fork := k.fork()
		fork.takes(left)
		if fork.tries("P21.2", 0, r) == ok {
			return left
		}
	}
}

// TestFewInodes: what needs an inode is refused without one; what needs none is done.
func TestFewInodes(t *testing.T) {
	old := stock(t, 900, 100)
	for left := range 28 {
		k := old.fork()
		k.leavesInodes(left)
		for _, x := range []struct {
			r    api.Request
			need int
		}{{create("new", 8, keeps()), 24}, {create("one", 1, keeps()), 3}, {add("a", 0, 0, 0, sized(400)...), 1}, {add("a", 0, 7, 6, sized(400)...), 1}, {add("a", 1, 0, 0, rec("k", "v", 1)), 0}, {commit("new", "a", 0, 5), 0}} {
			_, free := k.f.Free()
			if e := k.tries("P21.2", 5, x.r); (e == full) != (free < x.need) {
				t.Errorf("P21.2: with %d inodes Do(%s) = %d", free, short(x.r), e)
			}
			k.is("P21.2")
		}
		k.again("P21.2")
		k.asks("P21.2", 0, remove("c"))
		for k.sweeps("P21.3") {
		}
		k.answers("P21.2", ok, 5, add("a", 0, 0, 0, sized(400)...))
		k.again("P21.2")
	}
}

// TestSmallDevices: rows of requests on devices that become full: what is answered is as it should be, whatever was refused ahead.
func TestSmallDevices(t *testing.T) {
	for seed := range 20 {
		x := dice(seed)
		k := made(t, 290+x.below(20), 40+x.below(20))
		k.asks("P21.2", 0, create("a", 2, x.set()), create("b", 1, keeps()), create("c", 1, thins()))
		refused := 0
		for range 400 {
			r, now := x.request(k.q), x.below(60)
			blocks, inodes := k.f.Free()
			e := k.tries("P21.2", now, r)
			if e == full {
				if refused++; blocks >= api.Room && inodes >= 40 {
					t.Fatalf("P21.2: refused for room with %d blocks and %d inodes free", blocks, inodes)
				}
				if refused%8 == 0 {
					k.is("P21.2")
					k.fork().is("P21.2")
				}
			}
			if x.below(40) == 0 {
				k.remount()
			}
		}
		if refused == 0 {
			t.Errorf("seed %d: the test's own device was never full", seed)
		}
		k.again("P21.2")
		// Retain, Sweep and Tidy make room.
		k.asks("P21.2", 0, remove("a"), remove("b"), remove("c"))
		for k.sweeps("P21.3") {
		}
		k.asks("P21.2", 0, create("z", 1, keeps()), add("z", 0, 7, 0, rec("k", "v", 1)))
		k.again("P21.2")
	}
}

// TestEnough: while 300 data blocks and 40 inodes are free nothing is refused for room, however those that are taken came to be so.
func TestEnough(t *testing.T) {
	for seed := range 10 {
		x := dice(70 + seed)
		k := made(t, 900, 130)
		k.asks("P21.2", 0, create("a", 2, x.set()), create("b", 1, keeps()), create("c", 1, thins()))
		asked := 0
		for {
			if blocks, inodes := k.f.Free(); blocks < api.Room || inodes < 40 {
				break
			}
			k.step(&x)
			asked++
		}
		if asked < 50 {
			t.Errorf("seed %d: there was room for %d calls", seed, asked)
		}
		k.again("P21.2")
	}
}

// TestManySegments: a directory has room for 1104 names: an append that would need one more is 8's ErrBig, and nothing has changed; what needs none is done, and behind a Retain it is done, too.
func TestManySegments(t *testing.T) {
	k := made(t, 4000, 1300)
	set := keeps()
	set.Bytes = 0
	k.asks("P21.2", 0, create("a", 1, set))
	for i := range 1103 { // and the producers' file
		k.asks("P21.2", 0, add("a", 0, 7, i, sized(300)...))
	}
	for _, r := range []api.Request{add("a", 0, 0, 0, sized(300)...), add("a", 0, 7, 1103, sized(300)...), add("a", 0, 8, 0, sized(300)...)} {
		k.still("P21.2", "an append that is refused", func() {
			if told := k.b.Do(r, 0); shown(told) != "4#14 2 0 0 0 [] []" {
				t.Errorf("P21.2: append without room for a name = %.200s", shown(told))
			}
		})
	}
	k.again("P21.2")
	k.answers("P21.2", ok, 0, add("a", 0, 7, 1103, rec("k", "v", 1)), add("a", 0, 7, 1103, rec("k", "v", 1)), create("b", 1, keeps()), commit("g", "a", 0, 5))
	if !k.retains("P21.3", "a", 0, 0) {
		t.Error("P21.3: Retain = false")
	}
	k.answers("P21.2", ok, 0, add("a", 0, 7, 1104, sized(300)...))
	k.again("P21.2")
}

// TestCompactFull: Compact and Tidy without room are 10's ErrFull, and nothing has changed; behind a Sweep they are done.
func TestCompactFull(t *testing.T) {
	k := stock(t, 900, 150)
	for i := range 80 {
		k.asks("P21.2", i, commit(fmt.Sprint("g", i%9), "a", i%2, i))
	}
	k.asks("P21.2", 0, create("m", 1, thins()))
	for i := range 5 {
		k.asks("P21.2", 0, add("m", 0, 0, 0, rec("k", long(200), 5), rec(fmt.Sprint("k", i), long(200), 5)))
	}
	k.prepares()
	k.takes(0)
	k.stepFails("P21.3", full, func() (bool, api.Errno) { return k.b.Compact("m", 0, 5) })
	k.stepFails("P21.3", full, func() (bool, api.Errno) { return k.b.Tidy(5) })
	k.again("P21.3")
	for k.sweeps("P21.3") {
	}
	k.do(k.f.Truncate("/fill/0", 0))
	if !k.compacts("P21.3", "m", 0, 5) || !k.tidies("P21.3", 5) {
		t.Error("P21.3: with room nothing is compacted")
	}
	for k.retains("P21.3", "s", 0, 5000) {
	}
	k.again("P21.3")
}

// TestRoom: with 300 data blocks and 40 inodes free, wherever these lie on the greatest device, nothing is refused for room.
func TestRoom(t *testing.T) {
	old := wide(t)
	for name, r := range greedy() {
		k := old.fork()
		if told := k.asks("P21.2", 5, r); told.Code != ok {
			t.Errorf("P21.2: %s = %d, want OK", name, told.Code)
		}
		k.is("P21.2")
	}
	k := old.fork()
	k.answers("P21.2", ok, 5, remove("a"), remove("b3"))
	k.remount()
	k.is("P21.2")
}

// wide is the greatest device, with a broker of 19 topics, on which as little as can be lies together: 300 data blocks are free, the first 14 of them in blocks of the map of their own, and 40 inodes, far from each other.
func wide(t *testing.T) *kit {
	t.Helper()
	k := made(t, api.MaxBlocks, api.MaxInodes)
	k.asks("P21.2", 0, create("a", 2, api.Settings{Segment: 8192, Bytes: -1, Age: -1}), create("s", 1, keeps()))
	for i := range 17 {
		k.asks("P21.2", 0, create(fmt.Sprint("b", i), 1, keeps()))
	}
	for i := range 6 {
		k.asks("P21.2", 0, add("a", 0, 7, i, sized(600)...), add("s", 0, 0, 0, sized(400)...))
	}
	for i := range 20 {
		k.asks("P21.2", 0, add("a", 1, 1+i, 0, bare("", 3)))
	}
	for i := range 34 {
		k.asks("P21.2", 0, commit(fmt.Sprint("g", i), "a", 0, 5))
	}
	k.scatterInodes()
	k = k.scatterBlocks()
	if blocks, inodes := k.f.Free(); blocks != api.Room || inodes != 40 {
		t.Fatalf("the test's own device has %d blocks and %d inodes left", blocks, inodes)
	}
	return k
}

// scatterInodes takes all inodes but 40.
func (k *kit) scatterInodes() {
	k.t.Helper()
	path := func(i int) string { return fmt.Sprint("/fill", i/1000, "/", i) }
	for i := range 5 {
		k.do(k.f.Mkdir(fmt.Sprint("/fill", i)))
	}
	_, inodes := k.f.Free()
	for i := api.MaxInodes - inodes; i < api.MaxInodes; i++ { // the least one that is free is taken
		k.do(k.f.Create(path(i)))
	}
	for n := range 40 {
		i := 160 + 98*n
		k.do(k.f.Append(path(i), make([]byte, 4096)), k.f.Remove(path(i)))
	}
}

// scatterBlocks is the file system in whose map all data blocks are taken but 300.
func (k *kit) scatterBlocks() *kit {
	k.t.Helper()
	j, e := journal.Open(k.d)
	super, code := j.Read(api.Journal)
	p, bad := layout.Decode(super)
	c := cache.New(j)
	k.do(e, code, bad, c.Begin())
	for b := p.BlockMap; b < p.Table; b++ {
		last := min(4096, p.DataCount-4096*(b-p.BlockMap))
		free := 0
		switch n := b - p.BlockMap; {
		case n < 14:
			free = 1
		case n == 15:
			free = api.Room - 14
		}
		one, e := c.Read(b)
		for bit := range last - free {
			one[bit/8] |= 1 << (bit % 8)
		}
		if bits.Count(one, last) != last-free {
			k.t.Fatal("the test's own blocks lie where none should be")
		}
		k.do(e, c.Write(b, one))
	}
	k.do(c.Commit(), j.Sync())
	wide := mounted(k.t, k.d, k.q)
	wide.opens()
	return wide
}
