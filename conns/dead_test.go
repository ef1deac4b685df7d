package conns_test

import (
	"bytes"
	"maps"
	"slices"
	"testing"

	"bollard/api"
	"bollard/broker"
	"bollard/conns"
)

// isDead must be connections behind an answer that was cut off: those that are open tell nothing, and none is closed any more.
func (k *kit) isDead(promise string) {
	k.t.Helper()
	ops := k.d.Ops()
	for n := -1; n <= k.m.next; n++ {
		want := none
		if _, open := k.m.wait[n]; open {
			want = ok
		}
		for _, p := range [][]byte{nil, {}, {0}, framed(), framed(99, 99), asked(topics()), asked(create("later", 1), fetch("a", 0, 0, 1)), {255, 255, 255, 255}, length(maxFrame + 1), make([]byte, 9000)} {
			if got, e := k.c.Feed(n, p, 0); len(got) != 0 || e != want {
				k.t.Fatalf("%s: dead, Feed(%d, %s) = %x %d, want nothing and %d", promise, n, short(p), got, e, want)
			}
		}
		if k.c.Closed(n) != k.m.closed(n) {
			k.t.Fatalf("%s: dead, Closed(%d) = %v", promise, n, !k.m.closed(n))
		}
	}
	if !k.c.Dead() {
		k.t.Fatalf("%s: Dead is false behind an answer that was cut off", promise)
	}
	if k.d.Ops() != ops {
		k.t.Fatalf("%s: dead, Feed wrote by %d ops", promise, k.d.Ops()-ops)
	}
}

// picks are what crashes choose: nothing, all, and some of what is pending.
func picks(x *dice) [][]int {
	every, drawn := make([]int, 300), make([]int, 100)
	for i := range every {
		every[i] = 1
	}
	for i := range drawn {
		drawn[i] = x.below(4)
	}
	return [][]int{nil, every, {0, 1}, drawn, {2, -1, 0, 3, 1, 0, 1, 1, 1, 1}}
}

// TestPowerAlone: a request that comes alone, cut at each of its ops.
func TestPowerAlone(t *testing.T) {
	old := stock(t)
	for _, r := range []api.Request{create("new", 1), create("new", 8), remove("a"), add("a", 1, 0, 0, rec("k", "v", 1)), add("s", 0, 0, 0, sized(600)...), add("a", 0, 7, 4, rec("k", "v", 1)), commit("g", "a", 0, 77), commit("new", "s", 0, 1)} {
		law(t, old, true, r)
	}
}

// TestPowerTogether: several requests in one piece.
func TestPowerTogether(t *testing.T) {
	old := stock(t)
	law(t, old, true, every()...)
	law(t, old, true, create("b", 2), topics(), add("b", 1, 1, 0, sized(700)...), fetch("b", 1, 0, most), add("b", 1, 1, 0, rec("k", "v", 1)), commit("g", "b", 1, 1), offset("g", "b", 1), remove("a"), create("a", 1), topics())
	law(t, old, true, topics(), fetch("a", 0, 0, most), commit("g", "a", 0, 9), commit("g", "a", 0, 8))
	law(t, old, false, topics(), fetch("a", 0, 0, most), create("a", 1)) // nothing of it needs the device
}

// law holds a piece of requests, whose power goes at each op, against what was told and what a crash leaves.
func law(t *testing.T, old *kit, writes bool, l ...api.Request) {
	t.Helper()
	row := []*plain{old.m.q.clone()} // behind the first n requests
	var answers [][]byte
	for _, r := range l {
		q := row[len(row)-1].clone()
		m := &model{q: q}
		answers = append(answers, m.answer(laidRequest(r), 5))
		row = append(row, q)
	}
	x := dice(len(l))
	seen := map[bool]int{}
	dead := writes
	for cut := 0; cut == 0 || dead; cut++ {
		k := old.fork(3)
		half := asked(create("half", 1))
		k.feeds("P22.2", 1, 5, half[:9])
		k.feeds("P22.2", 2, 5, length(9000))
		k.d.Cut(cut)
		b := asked(l...)
		if cut%2 == 0 { // nothing behind the one that is cut off is done, closing neither
			b = slices.Concat(b, length(9000))
		}
		got, e := k.c.Feed(0, b, 5)
		done := 0
		for done < len(l) && len(got) >= len(answers[done]) && bytes.Equal(got[:len(answers[done])], answers[done]) {
			got = got[len(answers[done]):]
			done++
		}
		if len(got) > 0 || e != ok {
			t.Fatalf("P22.2: cut at op %d, %d requests are answered right, then %s, %d", cut, done, short(got), e)
		}
		if dead = done < len(l); !dead {
			if k.c.Dead() || k.c.Closed(0) != (cut%2 == 0) {
				t.Fatalf("P22.2: cut at op %d, all is answered: Dead %v, Closed %v", cut, k.c.Dead(), k.c.Closed(0))
			}
		} else {
			k.isDead("P22.2")
			k.d.Cut(1000) // the power comes again, but not for these
			k.isDead("P22.2")
		}
		k.leaves(&x, cut, seen, dead, row[done:]...)
	}
	if writes && (seen[false] == 0 || seen[true] == 0) {
		t.Errorf("P22.2: of %d requests, the first of Kind %d: what was cut off was done %d times, and not %d times", len(l), l[0].Kind, seen[true], seen[false])
	}
}

// leaves holds what crashes leave against all that was told, without what was cut off and with it.
func (k *kit) leaves(x *dice, cut int, seen map[bool]int, dead bool, row ...*plain) {
	k.t.Helper()
	for i, pick := range picks(x) {
		c := mounted(k.t, k.d.Crash(pick), row[0].clone(), 0)
		without := c.matches(row[0])
		if dead && !without {
			c.m.q = row[1].clone()
		}
		seen[!without]++
		c.is("P22.2")
		if i == cut%5 {
			c.goesOn("P22.2")
		}
	}
}

// TestRowPower: drawn pieces to several connections, cut anywhere, again and again.
func TestRowPower(t *testing.T) {
	for seed := range 40 {
		x := dice(900 + seed)
		k := made(t, 2500, 500)
		k.opens("P22.1")
		k.asks("P22.1", 0, 0, create("a", 2), create("b", 1), thins("c"))
		for range 10 {
			for len(k.m.wait) < 3 {
				k.opens("P22.1")
			}
			k.d.Cut(x.below(150))
			var row []*plain
			for steps := 0; !k.c.Dead(); steps++ {
				if steps == 3000 {
					t.Fatalf("P22.2: seed %d: %d pieces did without the device", seed, steps)
				}
				row = k.chance(&x)
			}
			k.isDead("P22.2")
			pick := make([]int, 100)
			for i := range pick {
				pick[i] = x.below(4)
			}
			k = mounted(t, k.d.Crash(pick), row[0].clone(), 0)
			if len(row) > 1 && !k.matches(row[0]) {
				k.m.q = row[1].clone()
			}
			k.is("P22.2")
		}
	}
}

// chance feeds one connection some whole requests, and tells what may be behind the last that was answered.
func (k *kit) chance(x *dice) []*plain {
	k.t.Helper()
	n := pick(x, slices.Sorted(maps.Keys(k.m.wait))...)
	now := x.below(70)
	row := []*plain{k.m.q.clone()}
	var answers [][]byte
	var piece []byte
	for range x.below(4) {
		r := x.request(row[len(row)-1])
		m := &model{q: row[len(row)-1].clone()}
		answers = append(answers, m.answer(laidRequest(r), now))
		row = append(row, m.q)
		piece = append(piece, asked(r)...)
	}
	got, e := k.c.Feed(n, piece, now)
	done := len(answers)
	if k.c.Dead() {
		for done = range answers {
			if len(slices.Concat(answers[:done]...)) == len(got) {
				break
			}
		}
	}
	if want := slices.Concat(answers[:done]...); !bytes.Equal(got, want) || e != ok {
		k.t.Fatalf("P22.2: Dead %v: the answers are\n %s %d, want\n %s", k.c.Dead(), short(got), e, short(want))
	}
	k.m.q = row[done]
	return row[done:min(done+2, len(row))]
}

// TestOff: a broker that is off, or none: what is no request is answered still, the first request lets the connections be dead.
func TestOff(t *testing.T) {
	k := stock(t)
	k.d.Cut(0)
	if r := k.b.Do(create("new", 1), 0); r.Code != off {
		t.Fatalf("P21.2: cut off, Do = %d", r.Code)
	}
	for i, b := range []*broker.Broker{k.b, nil, {}} {
		for _, r := range every() {
			c := conns.New(b)
			for want := range 2 {
				if n, e := c.Open(); n != want || e != ok {
					t.Fatalf("P22.1: broker %d: Open() = %d %d", i, n, e)
				}
			}
			got, e := c.Feed(1, framed(9), 0)
			if want := told(api.Response{Code: text}); !bytes.Equal(got, want) || e != ok || c.Dead() {
				t.Fatalf("P22.1: broker %d: Feed of what is no request = %x %d, Dead %v", i, got, e, c.Dead())
			}
			got, e = c.Feed(0, slices.Concat(framed(9), asked(r), framed(9), length(9000)), 0)
			if want := told(api.Response{Code: text}); !bytes.Equal(got, want) || e != ok || !c.Dead() || c.Closed(0) {
				t.Fatalf("P22.2: broker %d: Feed of a request = %x %d, Dead %v, Closed %v", i, got, e, c.Dead(), c.Closed(0))
			}
			(&kit{t, k.d, b, c, &model{wait: map[int][]byte{0: nil, 1: nil}, next: 2}}).isDead("P22.2")
		}
	}
}

// TestDeadOpen: dead connections are opened, up to 16, and tell nothing.
func TestDeadOpen(t *testing.T) {
	k := stock(t)
	k.d.Cut(1)
	if got, e := k.c.Feed(0, asked(create("new", 1)), 0); len(got) != 0 || e != ok {
		t.Fatalf("P22.2: cut off, Feed = %x %d", got, e)
	}
	k.isDead("P22.2")
	for range 18 {
		k.opens("P22.1")
	}
	k.isDead("P22.2")
}

// TestNil: a nil and a zero Conns.
func TestNil(t *testing.T) {
	for _, c := range []*conns.Conns{nil, {}, new(conns.Conns)} {
		for range 20 {
			if n, e := c.Open(); n != 0 || e != full {
				t.Fatalf("P22.2: Open() = %d %d, want ErrFull", n, e)
			}
			for _, n := range []int{least, -1, 0, 1, 15, 16, most} {
				for _, p := range [][]byte{nil, {}, {0}, framed(), framed(99, 99), asked(topics()), length(9000)} {
					if got, e := c.Feed(n, p, n); got != nil || e != none {
						t.Fatalf("P22.2: Feed(%d, %x) = %x %d, want ErrNone", n, p, got, e)
					}
				}
				if c.Closed(n) {
					t.Fatalf("P22.2: Closed(%d) is true", n)
				}
			}
			if !c.Dead() {
				t.Fatalf("P22.2: Dead is false")
			}
		}
	}
}
