package groups_test

import (
	"maps"
	"testing"

	"bollard/api"
	"bollard/fs"
	"bollard/groups"
)

// crashes is what a crash leaves, where mounting it was cut, and crashed again, so often.
func (k *kit) crashes(pick []int, often int) *kit {
	k.t.Helper()
	d := k.d.Crash(pick)
	for i := range often {
		d.Cut(i)
		if _, e := fs.Mount(d); e != ok && e != off {
			k.t.Fatalf("P10.6: Mount that is cut = %d", e)
		}
		d = d.Crash(pick)
	}
	return mounted(k.t, d)
}

// left is what is known: of was and is, the one that it is; of neither nil.
func (k *kit) left(was, is *plain) *plain {
	k.t.Helper()
	g := k.opens(was.dir)
	for _, q := range []*plain{is, was} {
		got := map[groups.Key]int{}
		for x := range q.known {
			if offset, e := g.Find(x); e == ok {
				got[x] = offset
			}
		}
		if g.Len() == len(got) && maps.Equal(got, q.known) && k.log(q.dir).Next() == len(q.all) {
			return q
		}
	}
	return nil
}

// law holds a call, cut at each of its ops, against what it leaves: was ahead of it, is behind it.
func law(t *testing.T, promise string, old *kit, was, is *plain, do func(k *kit, g *groups.Groups) api.Errno) {
	t.Helper()
	seen := [2]int{}
	for cut := 0; ; cut++ {
		k := old.fork()
		g := k.opens("/g")
		k.d.Cut(cut)
		e := do(k, g)
		if e != ok && e != off {
			t.Fatalf("%s: cut at op %d it answers %d, want ErrOff", promise, cut, e)
		}
		for i, pick := range picks() {
			crashed := k.crashes(pick, i%3)
			q := crashed.left(was, is)
			switch {
			case q == nil:
				t.Fatalf("%s: cut at op %d, behind a crash neither what was known is, nor what was committed", promise, cut)
			case q == is:
				seen[1]++
			case e == ok:
				t.Fatalf("%s: what was answered is gone behind a crash", promise)
			default:
				seen[0]++
			}
			crashed.is(promise, crashed.opens("/g"), q)
			crashed.again(promise, q)
			if i < 2 {
				crashed.goesOn(promise, q.clone())
			}
		}
		if e == ok {
			k.is(promise, g, is)
			break
		}
	}
	if seen[0] == 0 || seen[1] == 0 {
		t.Errorf("%s: the cuts left all %d times, nothing %d times", promise, seen[1], seen[0])
	}
}

// isOff must be all that changes on a file system that is dead, while what was known is told.
func (k *kit) isOff(promise string, g *groups.Groups, q *plain) {
	k.t.Helper()
	k.fails(off, g.Commit(key("off", 1, 0), 5, 5), g.Commit(key("off", 1, 0), 5, 5))
	k.fails(arg, g.Commit(key("", 1, 0), 5, 5), g.Commit(key("off", 1, 0), -1, 5))
	k.is(promise, g, q)
}

// TestCommitPower: what was committed is known behind the crash; of the one cut off the new offset, or the one ahead of it.
func TestCommitPower(t *testing.T) {
	for _, n := range []int{0, 33, 34, 199} { // behind 34 the next one goes into a new segment
		for _, x := range []groups.Key{nth(0), nth(n), key("new", end, 7)} {
			old := made(t, 500, 60)
			_, was := old.knows(n)
			is := was.clone()
			is.commit(x, end, 9)
			law(t, "P18.2", old, was, is, func(k *kit, g *groups.Groups) api.Errno {
				e := g.Commit(x, end, 9)
				if e == off {
					k.isOff("P18.2", g, was)
				}
				return e
			})
		}
	}
}

// TestCompactPower: whatever is cut off, what is known stays, and the partition is the one ahead of Compact or the one behind it.
func TestCompactPower(t *testing.T) {
	for n := range 3 { // how often it was called ahead
		old := made(t, 500, 60)
		g, q := old.makes("/g")
		for i := range 130 {
			old.commits("P18.2", g, q, nth(i%(20+i/5)), i, i)
		}
		for range n {
			old.compacts("P18.3", g, "/g", 5)
		}
		behind := old.fork()
		if done, e := behind.opens("/g").Compact(5); !done || e != ok {
			t.Fatalf("P18.3: Compact = %v %d, want true", done, e)
		}
		was, is := showAt(old.f, "/g"), showAt(behind.f, "/g")
		seen := [2]int{}
		for cut, e := 0, off; e == off; cut++ {
			k := old.fork()
			g := k.opens("/g")
			k.d.Cut(cut)
			var done bool
			if done, e = g.Compact(5); done != (e == ok) || e != ok && e != off {
				t.Fatalf("P18.3: Compact cut at op %d = %v %d", cut, done, e)
			}
			if e == off {
				k.isOff("P18.3", g, q)
				if done, e := g.Compact(5); done || e != off {
					t.Fatalf("P18.3: Compact on a dead file system = %v %d", done, e)
				}
			}
			for i, pick := range picks() {
				crashed := k.crashes(pick, i%3)
				switch now := showAt(crashed.f, "/g"); {
				case now == is:
					seen[1]++
				case now == was && e == off:
					seen[0]++
				default:
					t.Fatalf("P18.3: cut at op %d there is\n%s", cut, now)
				}
				crashed.is("P18.4", crashed.opens("/g"), q)
				crashed.again("P18.4", q)
				if i < 2 {
					crashed.goesOn("P18.4", q.clone())
				}
			}
		}
		if seen[0] == 0 || seen[1] == 0 {
			t.Errorf("P18.3: the cuts left all %d times, nothing %d times", seen[1], seen[0])
		}
	}
}

// TestTransactionPower: a transaction of Commits and Compacts is there wholly or not at all.
func TestTransactionPower(t *testing.T) {
	old := made(t, 500, 60)
	g, was := old.knows(40)
	old.commits("P18.2", g, was, nth(3), 5, 5)
	is := was.clone()
	fork := old.fork()
	fork.steps(fork.opens("/g"), is)
	law(t, "P18.3", old, was, is, func(k *kit, g *groups.Groups) api.Errno {
		k.do(k.f.Begin())
		k.steps(g, was.clone())
		return k.f.Commit()
	})
}

// TestOpenPower: Open that mends is cut: behind the crash the same is known.
func TestOpenPower(t *testing.T) {
	old := made(t, 500, 60)
	_, q := old.knows(60)
	old.do(old.f.Create("/g/x.new"), old.f.Append("/g/00000000000000000000", []byte("torn")))
	for cut, e := 0, off; e == off; cut++ {
		k := old.fork()
		k.d.Cut(cut)
		var g *groups.Groups
		if g, e = groups.Open(k.f, "/g"); (g != nil) != (e == ok) || e != ok && e != off {
			t.Fatalf("P18.1: Open cut at op %d = %v %d", cut, g, e)
		}
		for i, pick := range picks() {
			crashed := k.crashes(pick, i%3)
			crashed.is("P18.4", crashed.opens("/g"), q)
			crashed.goesOn("P18.4", q.clone())
		}
	}
}

// TestRowPower: calls one behind the other, cut anywhere, again and again: what was answered is known, and the one that was cut off is, or is not.
func TestRowPower(t *testing.T) {
	for seed := range 25 {
		x := dice(seed)
		k := made(t, 700, 120)
		g, q := k.makes("/g")
		for range 12 {
			k.d.Cut(x.below(150))
			was := q
			for calls, e := 0, ok; e == ok; calls++ {
				if calls == 1000 {
					t.Fatalf("P18.2: seed %d: %d calls did without the device", seed, calls)
				}
				was = q.clone()
				if x.below(4) == 0 {
					_, e = g.Compact(x.below(20))
				} else {
					y, offset, now := nth(x.below(30)), x.below(end), x.below(50)
					q.commit(y, offset, now)
					e = g.Commit(y, offset, now)
				}
				if e != ok && e != off {
					t.Fatalf("P18.2: seed %d: a call = %d", seed, e)
				}
			}
			pick := make([]int, 80)
			for i := range pick {
				pick[i] = x.below(3)
			}
			k = k.crashes(pick, x.below(3))
			if q = k.left(was, q); q == nil {
				t.Fatalf("P18.4: seed %d: behind a crash something else is known", seed)
			}
			g = k.opens("/g")
			k.is("P18.4", g, q)
		}
		k.again("P18.4", q)
	}
}
