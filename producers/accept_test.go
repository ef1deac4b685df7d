package producers_test

import (
	"fmt"
	"testing"

	"bollard/api"
)

// TestAccept: each is known by its last seq and base, at once, and Opened again.
func TestAccept(t *testing.T) {
	k := made(t, 400, 20)
	p, q := k.makes("/p"), plain{}
	for i, x := range [][3]int{
		{7, 0, 100}, {7, 1, 105}, {7, 2, 105}, {8, 0, 0}, {7, 3, 200}, {1, 5, end}, {most, most, end}, {8, 1, 1}, {8, 9, 2}, {8, 3, 3}, {8, 3, 4}, {8, 3, 0}, {8, 0, 7},
		{1, 4, 0}, {most, 0, 0}, {most, most, 1}, {2, most, 0}, {2, 0, end}, {7, 3, 200}, {7, 3, 199}, {3, 1 << 40, 1 << 49}, {1 << 40, 255, 256},
	} {
		k.accepts("P16.3", p, q, x[0], x[1], x[2])
		k.is("P16.3", p, q)
		k.again("P16.3", "/p", q)
		if i%5 == 4 {
			p = k.opens("/p")
		}
	}
}

// TestAcceptArg: numbers that may not be, of producers that are known and that are not.
func TestAcceptArg(t *testing.T) {
	for _, n := range []int{0, 1, 59, 60} {
		k := made(t, 400, 20)
		p, q := k.knows("/p", n)
		for _, producer := range []int{0, -1, -100, least, least + 1} {
			for _, x := range [][2]int{{0, 0}, {1, 1}, {-1, -1}, {most, end}, {least, least}} {
				k.refuses("P16.3", p, q, producer, x[0], x[1], arg)
			}
		}
		for _, producer := range []int{1, 100, 158, 159, most} {
			for _, seq := range []int{-1, -2, least, least + 1} {
				k.refuses("P16.3", p, q, producer, seq, 0, arg)
			}
			for _, base := range []int{-1, -2, least, least + 1, end + 1, end + 2, 2 * end, most - 1, most} {
				k.refuses("P16.3", p, q, producer, 0, base, arg)
				k.refuses("P16.3", p, q, producer, 1, base, arg)
			}
		}
		k.again("P16.3", "/p", q)
	}
}

// TestAcceptEdges: the least and the greatest numbers that may be.
func TestAcceptEdges(t *testing.T) {
	for _, producer := range []int{1, 2, 255, 256, 1 << 32, most - 1, most} {
		k := made(t, 400, 20)
		p, q := k.makes("/p"), plain{}
		for _, seq := range []int{0, 1, 255, 256, 1 << 32, most - 1, most} {
			for _, base := range []int{0, 1, 255, 256, 1 << 32, end - 1, end} {
				k.accepts("P16.3", p, q, producer, seq, base)
				k.is("P16.3", p, q)
				k.is("P16.1", k.opens("/p"), q)
			}
		}
		k.again("P16.3", "/p", q)
		if len(q) != 1 {
			t.Fatalf("the test's own list has %d", len(q))
		}
	}
}

// TestAcceptFull: the last one that can be known, and one more.
func TestAcceptFull(t *testing.T) {
	k := made(t, 400, 20)
	p, q := k.knows("/p", 59)
	k.accepts("P16.3", p, q, 7, 0, 5)
	if len(q) != room {
		t.Fatalf("the test's own list has %d", len(q))
	}
	for range 2 {
		k.is("P16.3", p, q)
		for _, producer := range []int{1, 8, 99, 159, 160, most} {
			for _, seq := range []int{0, 1, most} {
				for _, base := range []int{0, 5, end} {
					k.refuses("P16.3", p, q, producer, seq, base, big)
				}
				k.refuses("P16.3", p, q, producer, seq, end+1, arg)
			}
			k.refuses("P16.3", p, q, producer, -1, 0, arg)
		}
		for i := range 59 {
			k.accepts("P16.3", p, q, 100+i, 1000-i, i)
		}
		k.accepts("P16.3", p, q, 7, 1, 6)
		k.again("P16.3", "/p", q)
		p = k.opens("/p")
	}
}

// TestAcceptOrder: in whatever order they came, and come again.
func TestAcceptOrder(t *testing.T) {
	for _, step := range []int{1, 7, 23, 59} {
		k := made(t, 400, 20)
		p, q := k.makes("/p"), plain{}
		for round := range 3 {
			for i := range room {
				n := (i*step + round*11) % room
				k.accepts("P16.3", p, q, 1+n*n, round+n, round*1000+n)
				if i%20 == 7 {
					k.is("P16.3", p, q)
					p = k.opens("/p")
					k.is("P16.3", p, q)
				}
			}
			k.again("P16.3", "/p", q)
		}
	}
}

// TestAcceptNoRoom: without room nobody else is known, and those who are as they were; who is known needs no room.
func TestAcceptNoRoom(t *testing.T) {
	seen := 0
	for n := range room {
		k := made(t, 400, 40)
		p, q := k.knows("/p", n)
		k.fillUp()
		fork := k.fork()
		switch e := fork.opens("/p").Accept(7, 0, 5); e {
		case ok:
			k.accepts("P16.3", p, q, 7, 0, 5)
		case full:
			seen++
			k.refuses("P16.3", p, q, 7, 0, 5, full)
			k.refuses("P16.3", p, q, 7, 9, 0, full)
			k.refuses("P16.3", p, q, 7, -1, 0, arg)
		default:
			t.Fatalf("P16.3: Accept without room = %d", e)
		}
		for i := range n {
			k.accepts("P16.3", p, q, 100+i, 3*i+1, i)
		}
		k.is("P16.3", p, q)
		k.again("P16.3", "/p", q)
		k.do(k.f.Remove("/fill0"))
		k.goesOn("P16.3", "/p", q)
	}
	if seen == 0 {
		t.Error("P16.3: there was room for each")
	}
}

// TestAcceptGone: the file system's errors for a file that is not there any more.
func TestAcceptGone(t *testing.T) {
	k := made(t, 400, 20)
	p, q := k.knows("/p", room)
	few, r := k.knows("/few", 1)
	k.do(k.f.Remove("/p"), k.f.Remove("/few"))
	k.refuses("P16.3", p, q, 100, 0, 0, none)
	k.refuses("P16.3", p, q, 7, 0, 0, big)
	k.refuses("P16.3", p, q, 100, 0, -1, arg)
	k.refuses("P16.3", few, r, 7, 0, 0, none)
	k.do(k.f.Mkdir("/p"), k.f.Mkdir("/few"))
	k.refuses("P16.3", p, q, 100, 0, 0, kind)
	k.refuses("P16.3", few, r, 7, 0, 0, kind)
}

// law holds what is done with a file of producers, cut at each of its ops: was is who is known ahead of it, is behind it.
func law(t *testing.T, old *kit, was, is plain, do func(k *kit) api.Errno) {
	t.Helper()
	seen := [2]int{}
	for cut := 0; ; cut++ {
		k := old.fork()
		k.d.Cut(cut)
		e := do(k)
		if e != ok && e != off {
			t.Fatalf("P16.3: cut at op %d it answers %d", cut, e)
		}
		for i, pick := range picks() {
			d := k.d.Crash(pick)
			if i%2 == 1 { // the power goes while it is mounted, too
				d.Cut(i)
				mountOff(t, d)
				d = d.Crash(pick)
			}
			crashed := mounted(t, d)
			q, which := is, 1
			if e == off && fmt.Sprint(knownOf(crashed, was, is)) == fmt.Sprint(was) {
				q, which = was, 0
			}
			seen[which]++
			crashed.is("P16.3", crashed.opens("/p"), q)
			crashed.goesOn("P16.3", "/p", q.clone())
		}
		if e == ok {
			break
		}
	}
	if seen[0] == 0 || seen[1] == 0 {
		t.Errorf("P16.3: the cuts left all %d times, nothing %d times", seen[1], seen[0])
	}
}

// knownOf is who is known of those who may be.
func knownOf(k *kit, l ...plain) plain {
	k.t.Helper()
	p, got := k.opens("/p"), plain{}
	for _, q := range l {
		for n, x := range q {
			if base, again, _ := p.Check(n, x[0]); again {
				got[n] = [2]int{x[0], base}
			}
		}
	}
	return got
}

// TestAcceptPower: who was accepted is known behind the crash; of the one cut off the new seq or the one ahead.
func TestAcceptPower(t *testing.T) {
	for _, n := range []int{0, 1, 21, 42, 59} {
		for _, x := range [][3]int{{7, 0, 5}, {7, 4, end}, {100, 1, 2000}, {100, 0, 3000}, {120, 61, 4}, {100 + n - 1, 500, 1}} {
			old := made(t, 400, 20)
			_, was := old.knows("/p", n)
			is := was.clone()
			is.accept(x[0], x[1], x[2])
			law(t, old, was, is, func(k *kit) api.Errno {
				p := k.opens("/p")
				e := p.Accept(x[0], x[1], x[2])
				if e == off {
					k.is("P16.3", p, was)
					if e := p.Accept(x[0], x[1], x[2]); e != off {
						t.Errorf("P16.3: Accept on a dead file system = %d, want ErrOff", e)
					}
					k.fails(arg, p.Accept(0, 0, 0))
				}
				return e
			})
		}
	}
}

// TestAcceptRowPower: a row of them, cut somewhere: those that were answered are known.
func TestAcceptRowPower(t *testing.T) {
	for seed := range 30 {
		x := dice(seed)
		k := made(t, 400, 20)
		p, was := k.makes("/p"), plain{}
		for range 10 {
			k.d.Cut(x.below(60))
			is := was.clone()
			calls := 0
			for e := ok; e == ok; calls++ {
				if calls == 500 {
					t.Fatalf("P16.3: seed %d: %d calls did without the device", seed, calls)
				}
				was = is.clone()
				n, seq, base := 1+x.below(70), x.below(9), x.below(end)
				want := is.accept(n, seq, base)
				if e = p.Accept(n, seq, base); e != want && e != off {
					t.Fatalf("P16.3: seed %d: Accept(%d, %d, %d) = %d, want %d", seed, n, seq, base, e, want)
				}
				if e == big {
					e = ok
				}
			}
			k = mounted(t, k.d.Crash(picks()[x.below(6)]))
			if fmt.Sprint(knownOf(k, was, is)) != fmt.Sprint(was) {
				was = is
			}
			p = k.opens("/p")
			k.is("P16.3", p, was)
		}
	}
}
