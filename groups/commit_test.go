package groups_test

import (
	"fmt"
	"strings"
	"testing"

	"bollard/api"
	"bollard/groups"
)

// rightGroups are groups that may be, as short and as long as they may.
func rightGroups() []string {
	return []string{"g", "G", " ", "...", "\x01", "\x80", "\xff", "\u00e4", "a.b", strings.Repeat("g", 49), strings.Repeat("g", 50), strings.Repeat("\xff", 50)}
}

// edges are numbers from least to end at which an encoding may turn.
func edges(least int) (l []int) {
	for _, n := range []int{0, 1, 2, 7, 8, 9, 10, 99, 127, 128, 255, 256, 1 << 14, 1<<14 - 1, 1 << 16, 1 << 32, 1<<49 - 1, end - 1, end} {
		if n >= least {
			l = append(l, n)
		}
	}
	return l
}

// TestCommit: the least and the greatest of each, and many between.
func TestCommit(t *testing.T) {
	k := made(t, 1500, 100)
	g, q := k.makes("/g")
	for _, s := range rightGroups() {
		k.commits("P18.2", g, q, key(s, 1, 0), 5, 0)
		k.commits("P18.2", g, q, key(s, end, 7), end, end)
		k.is("P18.2", g, q)
	}
	for _, n := range edges(1) {
		k.commits("P18.2", g, q, key("t", n, 3), n, n)
	}
	for n := range 8 {
		k.commits("P18.2", g, q, key("p", 9, n), n, n)
	}
	for _, n := range edges(0) {
		k.commits("P18.2", g, q, key("o", 1, 0), n, 5)
		k.is("P18.2", g, q)
		k.commits("P18.2", g, q, key("n", 1, 0), 5, n)
		k.again("P18.2", q)
	}
	k.again("P18.2", q)
}

// TestCommitArg: what may not be, while no key, some and all of them are known.
func TestCommitArg(t *testing.T) {
	for _, n := range []int{0, 1, limit} {
		k := made(t, 900, 100)
		g, q := k.knows(n)
		for _, x := range wrongKeys() {
			k.refuses("P18.2", g, q, x, 5, 5, arg)
			k.refuses("P18.2", g, q, x, -1, -1, arg)
		}
		for _, x := range []groups.Key{key("new", 1, 0), nth(0)} {
			for _, v := range wrongNumbers() {
				k.refuses("P18.2", g, q, x, v, 0, arg)
				k.refuses("P18.2", g, q, x, 0, v, arg)
				k.refuses("P18.2", g, q, x, v, v, arg)
			}
		}
		k.again("P18.2", q)
	}
}

// TestCommitFull: the last key that can be known, one more, and those that are known while there are so many; behind Open, too.
func TestCommitFull(t *testing.T) {
	k := made(t, 1500, 100)
	g, q := k.knows(limit - 1)
	k.again("P18.2", q)
	k.commits("P18.2", g, q, key("last", 1, 0), 5, 0)
	if len(q.known) != limit {
		t.Fatalf("the test's own list has %d", len(q.known))
	}
	for i := range 2 {
		k.is("P18.2", g, q)
		for _, x := range []groups.Key{key("x", 1, 0), key("last", 1, 1), key("last", 2, 0), key("las", 1, 0), key(strings.Repeat("x", 50), end, 7)} {
			k.refuses("P18.2", g, q, x, 0, 0, big)
			k.refuses("P18.2", g, q, x, end, end, big)
			k.refuses("P18.2", g, q, x, end+1, 0, arg)
			k.refuses("P18.2", g, q, x, 0, -1, arg)
		}
		k.refuses("P18.2", g, q, key("x", 0, 0), 0, 0, arg)
		k.refuses("P18.2", g, q, key("x/", 1, 0), 0, 0, arg)
		k.refuses("P18.2", g, q, key("x", 1, 8), 0, 0, arg)
		for n := range limit - 1 {
			k.commits("P18.2", g, q, nth(n), 500*i+n, n)
		}
		k.commits("P18.2", g, q, key("last", 1, 0), i, 0)
		for k.compacts("P18.3", g, "/g", 0) {
			k.refuses("P18.2", g, q, key("x", 1, 0), 0, 0, big)
		}
		k.again("P18.2", q)
		g = k.opens("/g")
	}
}

// TestCommitAgain: the last offset counts, be it smaller, or the same, whatever the times are.
func TestCommitAgain(t *testing.T) {
	k := made(t, 900, 60)
	g, q := k.makes("/g")
	for i, x := range [][2]int{{5, 10}, {7, 11}, {6, 12}, {6, 12}, {6, 5}, {end, 4}, {0, 3}, {0, end}, {1, 0}, {end, 0}, {end - 1, 1}, {0, 0}, {5, 10}} {
		k.commits("P18.2", g, q, key("g", 1, 0), x[0], x[1])
		if offset, e := g.Find(key("g", 1, 0)); offset != x[0] || e != ok {
			t.Fatalf("P18.2: behind Commit %d Find = %d %d, want %d", i, offset, e, x[0])
		}
		if g.Len() != 1 || k.log("/g").Next() != i+1 {
			t.Fatalf("P18.2: behind Commit %d there are %d keys, %d records", i, g.Len(), k.log("/g").Next())
		}
		k.again("P18.2", q)
	}
}

// alike are keys of which each differs from some other one in one thing alone, or has numbers and a group that could be taken for one another.
func alike() (l []groups.Key) {
	for _, s := range []string{"g", "gg", "ggg", "G", "h", "g1", "g11", "1", "11", "1g", "-1", "g-1", "g 1", "g,1,1", "\x01", "\x01\x01", "\x01\x01g", "\x02\x01g", "\x01g", "\x81\x01g", "\x80", "\x81", "g\x01"} {
		for _, topic := range []int{1, 11, 1 + 1<<7, 1 << 8, 1<<8 + 1} {
			l = append(l, key(s, topic, 0))
		}
		l = append(l, key(s, 1, 1))
	}
	for _, topic := range []int{2, 10, 101, 111, 112, 1 << 7, 1 << 14, 1 << 16, 1<<16 + 1, 1 << 32, 1 << 40, 1 << 48, end} {
		l = append(l, key("g", topic, 0), key("g", topic, 1))
	}
	for part := range 8 {
		l = append(l, key("p", 1, part), key("p", 11, part))
	}
	return l
}

// TestAlike: of unlike keys nothing hangs on each other.
func TestAlike(t *testing.T) {
	k := made(t, 1500, 100)
	g, q := k.makes("/g")
	for i, x := range alike() {
		k.commits("P18.2", g, q, x, 100+i, i)
	}
	if len(q.known) != len(alike()) || len(q.known) > limit {
		t.Fatalf("the test's own list has %d keys, not %d", len(q.known), len(alike()))
	}
	k.is("P18.2", g, q)
	k.again("P18.2", q)
	for i, x := range alike() {
		k.commits("P18.2", g, q, x, i, 0)
		if i%20 == 0 {
			k.is("P18.2", g, q)
		}
	}
	for k.compacts("P18.3", g, "/g", 0) {
		k.is("P18.3", g, q)
	}
	k.again("P18.2", q)
}

// TestRecords: each Commit is one record, at the next offset, with its Time; its key is of k alone, its value of the offset; those that are refused are none.
func TestRecords(t *testing.T) {
	k := made(t, 1500, 100)
	g, q := k.makes("/g")
	x := dice(4)
	for i := range 400 {
		who := alike()[x.below(60)]
		if i%40 == 3 {
			who = key(rightGroups()[x.below(12)], end-x.below(2), 7)
		}
		k.commits("P18.2", g, q, who, edges(0)[x.below(19)], edges(0)[x.below(19)])
		k.commits("P18.2", g, q, wrongKeys()[x.below(9)], 5, 5)
		k.commits("P18.2", g, q, who, -1, 5)
		k.commits("P18.2", g, q, who, 5, end+1)
	}
	keys, whose, values := map[groups.Key]string{}, map[string]groups.Key{}, map[int]string{}
	for i, b := range k.batches(g, q) {
		y, r := q.all[i], b.Records[0]
		if !r.HasKey || len(r.Key) > 80 || !r.HasVal || len(r.Val) > 20 || r.Time != y.now || r.Off != 0 {
			t.Fatalf("P18.2: the record of Commit %v is %v", y, r)
		}
		if was, seen := keys[y.key]; seen && was != r.Key {
			t.Fatalf("P18.2: the key of %v is %q, and was %q", y.key, r.Key, was)
		}
		if was, seen := whose[r.Key]; seen && was != y.key {
			t.Fatalf("P18.2: the key %q is of %v, and of %v", r.Key, y.key, was)
		}
		if was, seen := values[y.offset]; seen && was != r.Val {
			t.Fatalf("P18.2: the value of %d is %q, and was %q", y.offset, r.Val, was)
		}
		keys[y.key], whose[r.Key], values[y.offset] = r.Key, y.key, r.Val
	}
	k.again("P18.2", q)
}

// batches are all of the partition's: as many as there were Commits, each of one record and nobody's.
func (k *kit) batches(g *groups.Groups, q *plain) []api.Batch {
	k.t.Helper()
	l, e := k.log(q.dir).Read(0, most)
	if e != ok || len(l) != len(q.all) {
		k.t.Fatalf("P18.2: there are %d batches of %d Commits, %d", len(l), len(q.all), e)
	}
	for i, b := range l {
		if b.Base != i || b.Span != 1 || b.Producer != 0 || b.Seq != 0 || len(b.Records) != 1 {
			k.t.Fatalf("P18.2: the batch %d is %v", i, b)
		}
	}
	return l
}

// TestSameKeyBytes: a key's bytes hang neither on what else was committed, nor on where, nor on the offset or the time.
func TestSameKeyBytes(t *testing.T) {
	for _, x := range []groups.Key{key("g", 1, 0), key(strings.Repeat("g", 50), end, 7), key("\x01", 300, 5)} {
		seen := map[string]int{}
		for n, dir := range []string{"/g", "/h"} {
			k := made(t, 900, 60)
			g, q := k.makes(dir)
			for i := range 9 * n {
				k.commits("P18.2", g, q, nth(i), i, i)
			}
			k.commits("P18.2", g, q, x, 7*n, 9*n)
			l := k.batches(g, q)
			seen[l[len(l)-1].Records[0].Key]++
		}
		if len(seen) != 1 {
			t.Errorf("P18.2: the key of %v is one of %v", x, seen)
		}
	}
}

// TestLen: ahead of, between and behind Commits of new and of known keys.
func TestLen(t *testing.T) {
	k := made(t, 900, 60)
	g, _ := k.makes("/g")
	for i, x := range []struct {
		key  groups.Key
		want int
	}{{key("a", 1, 0), 1}, {key("a", 1, 0), 1}, {key("b", 1, 0), 2}, {key("a", 1, 1), 3}, {key("a", 0, 1), 3}, {key("b", 1, 0), 3}, {key("a", 2, 0), 4}, {key("", 2, 0), 4}} {
		g.Commit(x.key, i, i)
		if n, again := g.Len(), k.opens("/g").Len(); n != x.want || again != x.want {
			t.Errorf("P18.2: behind Commit %d Len() = %d, and %d behind Open, want %d", i, n, again, x.want)
		}
	}
}

// TestSegments: Commits go into several segments, and all of them are known.
func TestSegments(t *testing.T) {
	k := made(t, 1500, 200)
	g, q := k.makes("/g")
	was := 0
	for i := range 500 {
		k.commits("P18.2", g, q, key(fmt.Sprint("group of some length ", i%7), 1+i%5, i%8), i, i)
		if n := len(k.log("/g").Segments()); n != was {
			was = n
			k.is("P18.2", g, q)
			k.again("P18.2", q)
		}
		if i%90 == 89 {
			g = k.opens("/g")
		}
	}
	if was < 10 {
		t.Errorf("the test's own partition has %d segments", was)
	}
	k.batches(g, q)
	k.again("P18.2", q)
}

// TestSegmentEdge: a segment of just 2048 bytes is full, and one of 2049 there is not.
func TestSegmentEdge(t *testing.T) {
	for length, want := range map[int]string{7: "[0] 2047", 8: "[0] 2048", 9: "[0 31] 1984"} {
		k := made(t, 900, 60)
		g, q := k.makes("/g")
		for i := range 31 { // of 64 bytes each
			k.commits("P18.2", g, q, key("eight by", 1+i, 0), i, i)
		}
		k.commits("P18.2", g, q, key(strings.Repeat("g", length), 1, 0), 5, 5)
		s, e := k.f.Stat("/g/00000000000000000000")
		k.do(e)
		if got := fmt.Sprint(k.log("/g").Segments(), s.Size); got != want {
			t.Errorf("P18.1: behind a Commit of %d bytes the segments, and the first one's bytes, are %s, want %s", 56+length, got, want)
		}
		k.again("P18.2", q)
	}
}

// TestCommitNoRoom: without room nothing has happened; with room again it goes on.
func TestCommitNoRoom(t *testing.T) {
	old := made(t, 400, 60)
	old.prepares()
	g, q := old.makes("/g")
	seen := map[api.Errno]int{}
	for i := range 80 { // up to where blocks, and segments, are full
		for left := range 3 {
			for _, x := range []groups.Key{nth(0), nth(i)} {
				k, q := old.fork(), q.clone()
				k.leaves(left)
				g := k.opens("/g")
				e := g.Commit(x, 77, 5)
				seen[e]++
				switch e {
				case ok:
					q.commit(x, 77, 5)
				case full:
					k.refuses("P18.2", g, q, x, 77, 5, full)
					k.refuses("P18.2", g, q, x, 77, -1, arg)
				default:
					t.Fatalf("P18.2: Commit without room = %d", e)
				}
				k.is("P18.2", g, q)
				if i%10 == 0 || e == full {
					k.again("P18.2", q)
					k.do(k.f.Truncate("/fill/0", 0))
					k.commits("P18.2", g, q, x, 78, 6)
					k.is("P18.2", g, q)
					k.goesOn("P18.2", q)
				}
			}
		}
		old.commits("P18.2", g, q, nth(i), i, i)
	}
	if seen[ok] == 0 || seen[full] == 0 {
		t.Errorf("P18.2: what Commit answered without room was %v times", seen)
	}
}

// TestCommitNoInodes: a new segment needs one.
func TestCommitNoInodes(t *testing.T) {
	k := made(t, 400, 20)
	g, q := k.makes("/g")
	k.leavesInodes(0)
	for n := 0; ; n++ {
		x := nth(n % 40)
		if e := k.fork().opens("/g").Commit(x, n, n); e == full {
			k.refuses("P18.2", g, q, x, n, n, full)
			break
		}
		if n > 100 {
			t.Fatal("P18.2: no segment is full")
		}
		k.commits("P18.2", g, q, x, n, n)
	}
	k.again("P18.2", q)
	k.do(k.f.Remove("/taken/0"))
	k.goesOn("P18.2", q)
}

// TestCommitGone: the file system's errors for a partition that is not there any more.
func TestCommitGone(t *testing.T) {
	k := made(t, 900, 60)
	g, q := k.knows(limit)
	for _, base := range k.log("/g").Segments() {
		k.do(k.f.Remove(fmt.Sprintf("/g/%020d", base)))
	}
	k.refuses("P18.2", g, q, nth(0), 5, 5, none)
	k.refuses("P18.2", g, q, key("x", 1, 0), 5, 5, big)
	k.refuses("P18.2", g, q, key("x", 0, 0), 5, 5, arg)
	k.do(k.f.Remove("/g"))
	k.refuses("P18.2", g, q, nth(0), 5, 5, none)
	k.do(k.f.Create("/g"))
	k.refuses("P18.2", g, q, nth(0), 5, 5, kind)
}

// TestFindChangesNothing: Find and Len, asked as often as you like, tell the same.
func TestFindChangesNothing(t *testing.T) {
	for _, n := range []int{0, 1, limit} {
		k := made(t, 900, 60)
		g, q := k.knows(n)
		k.still("P18.2", "Find", func() {
			for range 3 {
				k.is("P18.2", g, q)
			}
		})
	}
}
