package groups_test

import (
	"fmt"
	"testing"

	"bollard/api"
	"bollard/groups"
)

// nows are times of any kind.
func nows() []int {
	return []int{0, 1, 5, end, end + 1, -1, least, least + 1, most - 1, most}
}

// TestCompact: what it answers, and does, is what 15's does, again and again until it tells false, whatever now is; what is known stays.
func TestCompact(t *testing.T) {
	for _, now := range nows() {
		for _, keys := range []int{1, 5, 30, limit} {
			k := made(t, 1200, 100)
			g, q := k.makes("/g")
			for i := range 300 {
				k.commits("P18.2", g, q, nth(i*7%keys), i, i%11)
			}
			n := 0
			for k.compacts("P18.3", g, "/g", now) {
				n++
				k.is("P18.4", g, q)
				k.again("P18.4", q)
				if n%3 == 0 {
					g = k.opens("/g")
				}
			}
			if n == 0 {
				t.Fatalf("P18.3: of 300 Commits of %d keys none was compacted", keys)
			}
			k.still("P18.3", "Compact with nothing to do", func() { k.compacts("P18.3", g, "/g", now) })
			k.is("P18.4", g, q)
			k.goesOn("P18.4", q)
		}
	}
}

// TestCompactNothing: of few Commits, and of keys each of which was committed once, nothing is written anew.
func TestCompactNothing(t *testing.T) {
	k := made(t, 900, 60)
	g, q := k.makes("/g")
	still := func() {
		t.Helper()
		k.still("P18.3", "Compact", func() {
			t.Helper()
			for _, now := range nows() {
				if done, e := g.Compact(now); done || e != ok {
					t.Fatalf("P18.3: Compact(%d) = %v %d, want false", now, done, e)
				}
			}
		})
	}
	still()
	for range 9 { // all in the active segment
		k.commits("P18.2", g, q, key("g", 1, 0), 5, 5)
		still()
	}
	k = made(t, 900, 60)
	g, q = k.knows(limit)
	if len(k.log("/g").Segments()) < 3 {
		t.Fatal("the test's own partition has few segments")
	}
	still()
	k.again("P18.3", q)
}

// TestCompactLeaves: behind it each key has one record in the sealed segments, or in the active one, and no other key.
func TestCompactLeaves(t *testing.T) {
	k := made(t, 1200, 100)
	g, q := k.makes("/g")
	for i := range 400 {
		k.commits("P18.2", g, q, nth(i%13), i, i)
	}
	for k.compacts("P18.3", g, "/g", 0) {
	}
	p := k.log("/g")
	bases := p.Segments()
	sealed := 0
	l, _ := p.Read(0, most)
	for _, b := range l {
		y := q.all[b.Base]
		if want := right(y.key, y.offset); len(b.Records) != 1 || b.Records[0].Key != want.Key || b.Records[0].Val != want.Val || b.Records[0].Time != y.now {
			t.Fatalf("P18.3: at %d is %v, want %v", b.Base, b, y)
		}
		if b.Base < bases[len(bases)-1] {
			sealed++
		}
	}
	if sealed > 13 || p.Next() != 400 || p.Start() != 0 {
		t.Errorf("P18.3: there are %d records in sealed segments, of offsets %d to %d", sealed, p.Start(), p.Next())
	}
	k.again("P18.4", q)
}

// TestCompactRoom: however often offsets are committed, what is used beside a name and an inode for each segment stays small.
func TestCompactRoom(t *testing.T) {
	for _, keys := range []int{1, 20, limit} {
		k := made(t, 1000, 400)
		g, q := k.makes("/g")
		free, _ := k.f.Free()
		once := 0
		for round := range 8 {
			for i := range 400 {
				k.commits("P18.4", g, q, nth(i%keys), round*1000+i, round)
			}
			for more := true; more; {
				var e api.Errno
				more, e = g.Compact(round)
				k.do(e)
			}
			k.is("P18.4", g, q)
			names, _ := k.f.List("/g")
			blocks, _ := k.f.Free()
			used := free - blocks - len(names)/8 // a block of a directory has eight names
			if round == 0 {
				once = used
			}
			if used > once+20 || used > 5*keys/20+20 {
				t.Fatalf("P18.4: behind %d Commits of %d keys %d blocks are used, behind 400 %d", 400*(round+1), keys, used, once)
			}
		}
		k.again("P18.4", q)
	}
}

// TestCompactNoRoom: without room nothing has happened, also within a transaction; with room again it goes on.
func TestCompactNoRoom(t *testing.T) {
	old := made(t, 400, 80)
	old.prepares()
	g, q := old.knows(100)
	old.commits("P18.2", g, q, nth(0), 5, 5) // most of the first segment stays, and needs room
	seen := map[api.Errno]int{}
	for left := range 9 {
		for _, begun := range []bool{false, true} {
			k, q := old.fork(), q.clone()
			k.leaves(left)
			g := k.opens("/g")
			if begun {
				k.do(k.f.Begin(), k.f.Truncate("/fill/0", 3*api.Block), k.f.Truncate("/fill/0", 10*api.Block))
			}
			was := show(k.f)
			done, e := g.Compact(5)
			seen[e]++
			switch {
			case done && e == ok:
			case !done && e == full && show(k.f) == was:
				k.is("P18.3", g, q)
			default:
				t.Fatalf("P18.3: Compact without room = %v %d", done, e)
			}
			if begun {
				k.do(k.f.Commit())
			}
			k.is("P18.3", g, q)
			k.again("P18.3", q)
			k.do(k.f.Truncate("/fill/1", 0))
			k.goesOn("P18.3", q)
		}
	}
	if seen[ok] == 0 || seen[full] == 0 {
		t.Errorf("P18.3: what Compact answered without room was %v times", seen)
	}
}

// TestCompactBusy: 15's error of a name that can't be removed.
func TestCompactBusy(t *testing.T) {
	k := made(t, 900, 60)
	g, q := k.makes("/g")
	for i := range 60 {
		k.commits("P18.2", g, q, nth(i%5), i, i)
	}
	k.do(k.f.Mkdir("/g/00000000000000000000.new"), k.f.Create("/g/00000000000000000000.new/x"))
	k.still("P18.3", "Compact that is refused", func() {
		if done, e := g.Compact(0); done || e != busy {
			t.Fatalf("P18.3: Compact = %v %d, want ErrBusy", done, e)
		}
	})
	k.is("P18.3", g, q)
	k.do(k.f.Remove("/g/00000000000000000000.new/x"))
	if done, e := g.Compact(0); !done || e != ok {
		t.Fatalf("P18.3: Compact = %v %d, want true", done, e)
	}
	k.is("P18.3", g, q)
	k.again("P18.3", q)
}

// TestCompactBetween: Commits between Compacts, of keys that are in segments that were written anew already.
func TestCompactBetween(t *testing.T) {
	k := made(t, 1200, 200)
	g, q := k.makes("/g")
	done := 0
	for i := range 600 {
		k.commits("P18.4", g, q, key(fmt.Sprint("g", i*i%23), 1, i%3), i, i%7)
		if i%5 == 0 && k.compacts("P18.4", g, "/g", i%9) {
			done++
		}
		if i%50 == 0 {
			k.is("P18.4", g, q)
			k.again("P18.4", q)
		}
	}
	if done < 10 {
		t.Errorf("the test's own partition was compacted %d times", done)
	}
	k.is("P18.4", g, q)
	k.again("P18.4", q)
}

// TestCompactOthers: a partition that others appended to is compacted likewise; several records of a batch, too.
func TestCompactOthers(t *testing.T) {
	k := made(t, 900, 60)
	q := newPlain("/p")
	var rows [][]api.Record
	for i := range 40 {
		var row []api.Record
		for j := range 5 {
			x := groups.Key{Group: fmt.Sprint("g", (i+j)%12), Topic: 1 + j%2, Part: 0}
			row = append(row, right(x, 10*i+j))
			q.commit(x, 10*i+j, 5)
		}
		rows = append(rows, row)
	}
	k.holds(rows...)
	g, n := k.opens("/p"), 0
	for k.compacts("P18.3", g, "/p", 9) {
		n++
		k.is("P18.4", g, q)
		k.again("P18.4", q)
	}
	if n == 0 {
		t.Error("the test's own partition was not compacted")
	}
	k.goesOn("P18.4", q)
}
