package broker_test

import (
	"fmt"
	"testing"

	"bollard/api"
	"bollard/broker"
	"bollard/fs"
)

// crashes is what a crash leaves, where mounting and opening it was cut, and crashed again, once for each of cuts.
func (k *kit) crashes(pick []int, cuts ...int) *kit {
	k.t.Helper()
	return k.crashesOr(ok, pick, cuts...)
}

// crashesOr is the same where Open may answer that error, too.
func (k *kit) crashesOr(may api.Errno, pick []int, cuts ...int) *kit {
	k.t.Helper()
	d := k.d.Crash(pick)
	for _, cut := range cuts {
		d.Cut(cut)
		if f, e := fs.Mount(d); e == ok {
			if b, e := broker.Open(f); (b != nil) != (e == ok) || e != ok && e != may && e != off {
				k.t.Fatalf("P21.4: Open that is cut = %v %d", b, e)
			}
		} else if e != off {
			k.t.Fatalf("P10.6: Mount that is cut = %d", e)
		}
		d = d.Crash(pick)
	}
	return mounted(k.t, d, k.q)
}

// picks are what crashes choose: nothing, all, and some of what is pending.
func picks(x *dice) [][]int {
	every, drawn := make([]int, 300), make([]int, 100)
	for i := range every {
		every[i] = 1
	}
	for i := range drawn {
		drawn[i] = x.below(4)
	}
	return [][]int{nil, every, {1}, {0, 1}, drawn, {2, -1, 0, 3, 1, 0, 1, 1, 1, 1}}
}

// act is a call, and what it does to the plain broker.
type act struct {
	name  string
	call  func(k *kit) api.Errno
	plain func(q *plain)
}

// asked is the act of a request.
func asked(name string, now int, r api.Request) act {
	return act{name, func(k *kit) api.Errno {
		k.t.Helper()
		told := k.b.Do(r, now)
		if want := (api.Response{Kind: r.Kind, ID: r.ID, Code: off}); told.Code == off && shown(told) != shown(want) {
			k.t.Fatalf("P21.2: cut off, Do(%s) = %.500s", short(r), shown(told))
		}
		return told.Code
	}, func(q *plain) { q.do(r, now) }}
}

// stepped is the act of a call that tells whether it did something.
func stepped(name string, call func(b *broker.Broker) (bool, api.Errno), plain func(q *plain)) act {
	return act{name, func(k *kit) api.Errno {
		k.t.Helper()
		done, e := call(k.b)
		if done != (e == ok) {
			k.t.Fatalf("P21.3: %s = %v %d", name, done, e)
		}
		return e
	}, plain}
}

// acts are calls of each kind that change something, on what stock makes.
func acts() []act {
	return []act{
		asked("create", 5, create("new", 1, thins())),
		asked("create of eight parts", 5, create("new", 8, keeps())),
		asked("delete", 5, remove("a")),
		asked("append of nobody's", 5, add("a", 1, 0, 0, rec("k", "v", 1))),
		asked("append in a new segment", 5, add("c", 0, 0, 0, sized(400)...)),
		asked("append of a producer's", 5, add("a", 1, 3, 1, rec("k", "v", 1), tomb("k", 2))),
		asked("append of a producer's in a new segment", 5, add("c", 0, 7, 6, sized(400)...)),
		asked("append of a new producer's", 5, add("s", 0, 9, 0, sized(6000)...)),
		asked("commit", 5, commit("g", "a", 0, 77)),
		asked("commit of a new group's", 5, commit(long(50), "c", 0, end)),
		stepped("Retain", func(b *broker.Broker) (bool, api.Errno) { return b.Retain("s", 0, 5000) }, func(q *plain) { q.retain("s", 0, 5000) }),
		stepped("Compact", func(b *broker.Broker) (bool, api.Errno) { return b.Compact("c", 0, 5) }, func(q *plain) { q.compact("c", 0, 5) }),
		stepped("Tidy", func(b *broker.Broker) (bool, api.Errno) { return b.Tidy(5) }, func(q *plain) {}),
		stepped("Sweep", func(b *broker.Broker) (bool, api.Errno) { return b.Sweep() }, func(q *plain) { q.sweep() }),
	}
}

// TestPower: each call, cut at each of its ops, whatever a crash leaves, mounted and opened and cut again: it was done wholly, or not at all.
func TestPower(t *testing.T) {
	old := stock(t, 900, 100)
	for i := range 36 { // so that there is something to tidy, and the next commit may begin a segment
		old.asks("P21.2", i, commit(fmt.Sprint("g", i%3), "c", 0, i))
	}
	for _, a := range acts() {
		law(t, old, a)
	}
	for range 2 { // then a directory goes
		old.sweeps("P21.3")
	}
	law(t, old, acts()[len(acts())-1])
}

// law holds a call that is cut against what it leaves.
func law(t *testing.T, old *kit, a act) {
	t.Helper()
	behind := old.fork()
	if e := a.call(behind); e != ok {
		t.Fatalf("P21.4: %s = %d", a.name, e)
	}
	a.plain(behind.q)
	behind.is("P21.4")
	was, is := old.whole(), behind.whole()
	if was == is {
		t.Fatalf("P21.4: %s changes nothing", a.name)
	}
	x := dice(len(a.name))
	seen := [2]int{}
	for cut, e := 0, off; e == off; cut++ {
		k := old.fork()
		k.d.Cut(cut)
		if e = a.call(k); e != ok && e != off {
			t.Fatalf("P21.4: %s cut at op %d = %d, want ErrOff", a.name, cut, e)
		}
		if e == off {
			k.isOff("P21.2")
		}
		for i, pick := range picks(&x) {
			c := k.crashes(pick, [][]int{nil, {cut % 5}, {i, cut % 3, 1}, {0, 1, 2, 3, 4, 5}}[(i+cut)%4]...)
			c.opens()
			switch now := c.whole(); {
			case now == is:
				c.q = behind.q.clone()
				seen[1]++
			case now == was && e == off:
				c.q = old.q.clone()
				seen[0]++
			case e == ok:
				t.Fatalf("P21.4: what %s answered is gone behind a crash", a.name)
			default:
				c.same("P21.4", fmt.Sprintf("%s cut at op %d", a.name, cut), now, was)
			}
			c.is("P21.4")
			if i == cut%6 {
				c.goesOn("P21.4")
			}
		}
	}
	if seen[0] == 0 || seen[1] == 0 {
		t.Errorf("P21.4: the cuts of %s left all %d times, nothing %d times", a.name, seen[1], seen[0])
	}
}

// TestFormatPower: a broker is there wholly, or not at all.
func TestFormatPower(t *testing.T) {
	old := empty(t, 600, 60)
	x := dice(1)
	seen := map[api.Errno]int{}
	for cut, e := 0, off; e == off; cut++ {
		k := mounted(t, old.d.Crash(nil), newPlain())
		k.d.Cut(cut)
		if e = broker.Format(k.f); e != ok && e != off {
			t.Fatalf("P21.1: Format cut at op %d = %d", cut, e)
		}
		if b, code := broker.Open(k.f); e == off && (b != nil || code != off) {
			t.Fatalf("P21.1: Open behind a Format that was cut = %v %d", b, code)
		}
		for i, pick := range picks(&x) {
			c := k.crashesOr(none, pick, []int{cut % 5, i}[:i%3]...)
			c.q = newPlain()
			l, _ := c.f.List("/")
			_, code := broker.Open(c.f)
			seen[code]++
			switch {
			case code == ok && len(l) == 2:
			case code == none && len(l) == 0 && e == off:
				c.do(broker.Format(c.f))
			default:
				t.Fatalf("P21.4: Format = %d, cut at op %d: Open = %d, and there are %q", e, cut, code, l)
			}
			c.opens()
			c.is("P21.4")
			c.goesOn("P21.4")
		}
	}
	if seen[ok] == 0 || seen[none] == 0 {
		t.Errorf("P21.1: the cuts left a broker %d times, none %d times", seen[ok], seen[none])
	}
}

// TestOpenPower: Open that mends, cut at each of its ops: the same broker is there.
func TestOpenPower(t *testing.T) {
	old := stock(t, 900, 100)
	old.do(old.f.Create("/topics/t2-0/x.new"), old.f.Create("/offsets/00000000000000000000.new"), old.f.Append("/topics/t3-0/00000000000000000004", []byte("torn")), old.f.Append("/topics/t4-0/00000000000000000005", []byte(long(2000))))
	x := dice(2)
	ops := 0
	for cut, e := 0, off; e == off; cut++ {
		k := mounted(t, old.d.Crash(nil), old.q)
		k.d.Cut(cut)
		var b *broker.Broker
		if b, e = broker.Open(k.f); (b != nil) != (e == ok) || e != ok && e != off {
			t.Fatalf("P21.4: Open cut at op %d = %v %d", cut, b, e)
		}
		for i, pick := range picks(&x) {
			c := k.crashes(pick, [][]int{nil, {cut}, {i, cut % 7, 5}}[i%3]...)
			c.q = old.q.clone()
			c.opens()
			c.is("P21.4")
			if i == cut%6 {
				c.goesOn("P21.4")
			}
		}
		ops++
	}
	if ops < 5 {
		t.Errorf("the test's own Open took %d ops", ops)
	}
}

// TestSentAgain: an append is cut off; sent again with the same number, it is in the log once.
func TestSentAgain(t *testing.T) {
	old := stock(t, 900, 100)
	for _, r := range []api.Request{add("a", 1, 3, 1, rec("k", "v", 1)), add("c", 0, 7, 6, sized(400)...), add("s", 0, 9, 0, sized(1000)...)} {
		_, l := old.q.find(r.Topic, r.Part)
		base := l.next()
		seen := map[int]int{}
		x := dice(3)
		for cut, e := 0, off; e == off; cut++ {
			k := old.fork()
			k.d.Cut(cut)
			e = k.b.Do(r, 0).Code
			for i, pick := range picks(&x) {
				c := k.crashes(pick, []int{cut % 9, 2}[:i%3]...)
				c.opens()
				seen[c.b.Do(list(r.Topic, r.Part, 0), 0).Next-base]++
				c.q = old.q.clone()
				c.q.do(r, 0)
				for range 3 {
					want := api.Response{Kind: 4, ID: 14, Offset: base, Start: l.start(), Next: base + len(r.Records)}
					if told := c.b.Do(r, 0); shown(told) != shown(want) {
						t.Fatalf("P21.6: cut at op %d, sent again: %s, want %s", cut, shown(told), shown(want))
					}
				}
				c.is("P21.6")
			}
		}
		if len(seen) != 2 || seen[0] == 0 || seen[len(r.Records)] == 0 {
			t.Errorf("P21.6: Next rose by %v", seen)
		}
	}
}

// TestRowPower: calls one behind the other, cut anywhere, again and again: what was answered is there, and the one that was cut off is, or is not.
func TestRowPower(t *testing.T) {
	for seed := range 40 {
		x := dice(500 + seed)
		k := made(t, 2500, 500)
		s := newSeen()
		k.asks("P21.2", 0, create("a", 2, x.set()), create("c", 1, thins()))
		for range 12 {
			k.d.Cut(x.below(200))
			was := k.q.clone()
			for calls, e := 0, ok; e != off; calls++ {
				if calls == 2000 {
					t.Fatalf("P21.4: seed %d: %d calls did without the device", seed, calls)
				}
				was = k.q.clone()
				e = k.chance(&x)
				if x.below(20) == 0 && e != off {
					s.looks(k)
				}
			}
			k.isOff("P21.2")
			pick := make([]int, 100)
			for i := range pick {
				pick[i] = x.below(4)
			}
			var cuts []int
			for range x.below(4) {
				cuts = append(cuts, x.below(12))
			}
			k = k.crashes(pick, cuts...)
			k.opens()
			if !k.matches(k.q) {
				k.q = was
			}
			k.is("P21.4")
			s.looks(k)
		}
		k.again("P21.6")
	}
}

// chance is a drawn call. What it would have done, had it not been cut off, is done with the plain broker in any case.
func (k *kit) chance(x *dice) api.Errno {
	k.t.Helper()
	now := x.below(70)
	topic, part := x.topic(), x.part()
	switch x.below(20) {
	case 0:
		want, code := k.q.retain(topic, part, now)
		done, e := k.b.Retain(topic, part, now)
		return k.chances("Retain", want, code, done, e)
	case 1, 2:
		want, code := k.q.compact(topic, part, now)
		done, e := k.b.Compact(topic, part, now)
		return k.chances("Compact", want, code, done, e)
	case 3:
		_, e := k.b.Tidy(now)
		return e
	case 4:
		want := k.q.sweep()
		done, e := k.b.Sweep()
		return k.chances("Sweep", want, ok, done, e)
	}
	r := x.request(k.q)
	want := k.q.do(r, now)
	told := k.b.Do(r, now)
	if told.Code != off && shown(told) != shown(want) {
		k.t.Fatalf("P21.2: Do(%s, %d):\n got %.1000s\nwant %.1000s", short(r), now, shown(told), shown(want))
	}
	return told.Code
}

// chances holds a call that may be cut off against what it should answer.
func (k *kit) chances(what string, want bool, code api.Errno, done bool, e api.Errno) api.Errno {
	k.t.Helper()
	switch {
	case e == off && done, e != off && (e != code || done != want):
		k.t.Fatalf("P21.3: %s = %v %d, want %v %d", what, done, e, want, code)
	}
	return e
}
