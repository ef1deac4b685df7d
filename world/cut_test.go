package world_test

import (
	"bytes"
	"fmt"
	"maps"
	"slices"
	"testing"

	"bollard/api"
)

// attempt is a call that may be cut off. It tells how many requests or steps of it were answered, and what may be there behind a crash: what was answered, and, if something was cut off, that with it.
type attempt func(k *kit) (done int, row []*plain)

// byDo is a request by Do.
func byDo(r api.Request) attempt {
	return func(k *kit) (int, []*plain) {
		k.t.Helper()
		with := k.m.q.clone()
		want := shown(with.do(r, k.m.now))
		layered := shown(k.l.b.Do(r, k.m.now))
		told := k.w.Do(r)
		if told.Code == off {
			want = shown(api.Response{Kind: r.Kind, ID: r.ID, Code: off})
		}
		if got := shown(told); got != want || got != layered {
			k.t.Fatalf("P23.2: with the power going, Do(%s):\n got %.1000s\nwant %.1000s\n21's %.1000s", short(r), got, want, layered)
		}
		return k.tried(told.Code == off, with)
	}
}

// byStep is a Step.
func byStep(kind int, topic string, part int) attempt {
	return func(k *kit) (int, []*plain) {
		k.t.Helper()
		m := &model{q: k.m.q.clone(), now: k.m.now}
		layered, layeredCode := k.l.step(kind, topic, part, k.m.now)
		want, code := m.step(kind, topic, part)
		done, e := k.w.Step(kind, topic, part)
		if e == off {
			want, code = false, off
		} else if kind == tidy {
			want, code = layered, layeredCode
		}
		if done != want || e != code || done != layered || e != layeredCode {
			k.t.Fatalf("P23.2: with the power going, Step(%d, %q, %d) = %v %d, want %v %d, 21's is %v %d", kind, topic, part, done, e, want, code, layered, layeredCode)
		}
		return k.tried(e == off, m.q)
	}
}

// tried is what may be there behind one call.
func (k *kit) tried(cut bool, with *plain) (done int, row []*plain) {
	k.t.Helper()
	k.level("P23.2", "a call that may be cut off")
	if cut {
		return 0, []*plain{k.m.q, with}
	}
	k.m.q = with
	return 1, []*plain{with}
}

// byFeed is requests by Feed, in one piece.
func byFeed(conn int, l ...api.Request) attempt {
	return func(k *kit) (int, []*plain) {
		k.t.Helper()
		row := []*plain{k.m.q}
		var answers [][]byte
		for _, r := range l {
			m := &model{q: row[len(row)-1].clone(), now: k.m.now}
			answers = append(answers, m.answer(laidRequest(r)))
			row = append(row, m.q)
		}
		layered, layeredCode := k.l.feed(conn, asked(l...), k.m.now)
		got, e := k.w.Feed(conn, asked(l...))
		if !bytes.Equal(got, layered) || e != layeredCode || e != ok {
			k.t.Fatalf("P23.2: with the power going, Feed = %s %d, 22's is %s %d", brief(got), e, brief(layered), layeredCode)
		}
		done := 0
		for done < len(l) && bytes.HasPrefix(got, answers[done]) {
			got = got[len(answers[done]):]
			done++
		}
		if len(got) > 0 {
			k.t.Fatalf("P23.2: with the power going, %d requests are answered right, then %s", done, brief(got))
		}
		k.level("P23.2", "a piece that may be cut off")
		k.m.q = row[done]
		return done, row[done:min(done+2, len(row))]
	}
}

// isOff must be all that would change something, and all requests, once something has answered ErrOff.
func (k *kit) isOff(promise string) {
	k.t.Helper()
	ops := k.w.Ops()
	requests := slices.Concat(every(), []api.Request{create("later", 8, keeps()), add("a", 0, 7, 4, rec("k", "v", 1)), remove("s"), commit("g", "a", 0, 9)})
	for _, r := range append(requests, api.Request{}, api.Request{Kind: 9, ID: most}, api.Request{Kind: least, ID: least}) {
		k.l.b.Do(r, k.m.now)
		want := api.Response{Kind: r.Kind, ID: r.ID, Code: off}
		if told := k.w.Do(r); shown(told) != shown(want) {
			k.t.Fatalf("%s: off, Do(%s) = %s", promise, short(r), shown(told))
		}
	}
	k.stepsOff(promise)
	k.silent(promise, requests)
	if k.w.Ops() != ops {
		k.t.Fatalf("%s: off, calls wrote by %d ops", promise, k.w.Ops()-ops)
	}
	k.level(promise, "calls of a world that is off")
}

// stepsOff must be all steps then.
func (k *kit) stepsOff(promise string) {
	k.t.Helper()
	for _, kind := range append(wrongKinds(), retain, compact, tidy, sweep) {
		want := arg
		if kind >= retain && kind <= sweep {
			want = off
		}
		for _, topic := range []string{"a", "c", "s", "q", "", long(51)} {
			for _, part := range []int{0, 1, -1, most} {
				if done, e := k.w.Step(kind, topic, part); done || e != want {
					k.t.Fatalf("%s: off, Step(%d, %q, %d) = %v %d, want %d", promise, kind, topic, part, done, e, want)
				}
			}
		}
	}
}

// silent must be all connections then, from the first request on.
func (k *kit) silent(promise string, requests []api.Request) {
	k.t.Helper()
	for n := -1; n <= k.m.next; n++ {
		want := none
		if _, open := k.m.wait[n]; open {
			want = ok
		}
		for _, p := range [][]byte{nil, asked(topics()), asked(requests...), asked(requests[1]), framed(), framed(99, 99), length(9000), {0}} {
			k.l.feed(n, p, k.m.now)
			if got, e := k.w.Feed(n, p); len(got) != 0 || e != want {
				k.t.Fatalf("%s: off, Feed(%d, %s) = %x %d, want nothing and %d", promise, n, brief(p), got, e, want)
			}
		}
	}
}

// picks are what crashes choose: nothing, all, and some of what is pending.
func picks(x *dice) [][]int {
	all, drawn := make([]int, 300), make([]int, 100)
	for i := range all {
		all[i] = 1
	}
	for i := range drawn {
		drawn[i] = x.below(4)
	}
	return [][]int{nil, all, drawn, {2, -1, 0, most, 1, least, 1, 3, -2, 1}}
}

// trees is what lies in files ahead of attempts, and behind each of them.
func trees(t *testing.T, l []attempt) []map[string]string {
	t.Helper()
	k := stock(t)
	all := []map[string]string{tree(k.w.Files(), "/")}
	for _, try := range l {
		if done, _ := try(k); done != 1 {
			t.Fatalf("P23.2: a call is cut off, where nothing was cut")
		}
		all = append(all, tree(k.w.Files(), "/"))
	}
	return all
}

// law lets the power go at each op of an attempt, and holds what crashes leave against what may be there; parts are the calls that it is made of. It tells how many ops the attempt takes.
func law(t *testing.T, name string, try attempt, parts ...attempt) int {
	t.Helper()
	behind := trees(t, parts)
	x := dice(len(name))
	seen := [2]int{}
	cut := -1
	for dead := true; dead; cut++ {
		for i, pick := range picks(&x) {
			k := stock(t)
			k.cuts(cut)
			done, row := try(k)
			if dead = done < len(parts); dead {
				k.isOff("P23.2")
				k.cuts([]int{1000, 0, most, 1}[i])
				k.isOff("P23.2")
			}
			k.crashes("P23.3", pick, [][]int{nil, {0}, {1, 0, 2}, {-1, 5, 0, 1, least}}[(i+cut+1)%4])
			with := 0
			if now := tree(k.w.Files(), "/"); dead && maps.Equal(now, behind[done+1]) {
				with = 1
			} else if !maps.Equal(now, behind[done]) {
				t.Fatalf("P23.5: %s, cut behind %d ops, was done neither wholly nor not at all", name, cut)
			}
			if dead {
				seen[with]++
			}
			k.m.q = row[with]
			k.is("P23.5")
			if i == (cut+1)%4 {
				k.goesOn("P23.5")
			}
		}
	}
	cut-- // at which all was done
	if cut > 0 && (seen[0] == 0 || seen[1] == 0) {
		t.Errorf("P23.5: %s, that was cut off, was done %d times, and not %d times", name, seen[1], seen[0])
	}
	return max(cut, 0)
}

// needy are requests of each Kind that needs the device, on what stock lays.
func needy() map[string]api.Request {
	return map[string]api.Request{
		"create":                            create("new", 1, thins()),
		"create of eight parts":             create("new", 8, keeps()),
		"delete":                            remove("a"),
		"append of nobody's":                add("a", 1, 0, 0, rec("k", "v", 1)),
		"append in a new segment":           add("s", 0, 0, 0, rec("k", long(400), 1)),
		"append of a producer's":            add("a", 0, 7, 4, rec("k", "v", 1), tomb("k", 2)),
		"append of a new one's":             add("c", 0, 9, 0, rec("k", long(1900), 1), rec("l", long(1900), 1), rec("m", long(1900), 1)),
		"commit":                            commit("g", "a", 0, 77),
		"commit of a new one's":             commit(long(50), "c", 0, end),
		"append of a producer's, too early": add("a", 0, 7, 3, rec("k", "v", 1)),
	}
}

// TestPowerDo: requests by Do, cut at each op.
func TestPowerDo(t *testing.T) {
	for name, r := range needy() {
		t.Run(name, func(t *testing.T) {
			t.Parallel()
			if ops := law(t, name, byDo(r), byDo(r)); (ops == 0) != (name == "append of a producer's, too early") {
				t.Errorf("the test's own %s takes %d ops", name, ops)
			}
		})
	}
}

// TestPowerFeed: requests by Feed, alone in a piece, cut at each op.
func TestPowerFeed(t *testing.T) {
	for name, r := range needy() {
		t.Run(name, func(t *testing.T) {
			t.Parallel()
			if ops := law(t, name, byFeed(1, r), byDo(r)); (ops == 0) != (name == "append of a producer's, too early") {
				t.Errorf("the test's own %s takes %d ops", name, ops)
			}
		})
	}
}

// TestPowerStep: steps of each kind, cut at each op.
func TestPowerStep(t *testing.T) {
	for _, x := range []struct {
		kind  int
		topic string
		needs bool
	}{{retain, "s", true}, {compact, "c", true}, {tidy, "", true}, {sweep, "", true}, {retain, "a", false}, {compact, "a", false}, {retain, "q", false}, {5, "a", false}} {
		name := fmt.Sprint("step ", x.kind, x.topic)
		t.Run(name, func(t *testing.T) {
			t.Parallel()
			if ops := law(t, name, byStep(x.kind, x.topic, 0), byStep(x.kind, x.topic, 0)); (ops > 0) != x.needs {
				t.Errorf("the test's own %s takes %d ops", name, ops)
			}
		})
	}
}

// TestPowerPiece: several requests in one piece, cut at each op: those ahead are answered, those behind are not done.
func TestPowerPiece(t *testing.T) {
	for i, l := range [][]api.Request{
		every(),
		{create("b", 2, keeps()), topics(), add("b", 1, 1, 0, rec("k", long(700), 1)), fetch("b", 1, 0, most), add("b", 1, 1, 0, rec("k", "v", 1)), commit("g", "b", 1, 1), offset("g", "b", 1), remove("a"), create("a", 1, keeps()), topics()},
		{topics(), fetch("a", 0, 0, most), commit("g", "a", 0, 9), commit("g", "a", 0, 8)},
	} {
		t.Run(fmt.Sprint("piece ", i), func(t *testing.T) {
			t.Parallel()
			var parts []attempt
			for _, r := range l {
				parts = append(parts, byDo(r))
			}
			if ops := law(t, "a piece", byFeed(0, l...), parts...); ops == 0 {
				t.Errorf("the test's own piece %d takes no ops", i)
			}
		})
	}
}

// TestPowerLooks: what only looks needs no op, so nobody finds that the power is off, and what is asked is answered as ever.
func TestPowerLooks(t *testing.T) {
	for _, n := range []int{0, -1, least} {
		k := stock(t)
		k.cuts(n)
		for _, r := range append(k.m.q.looks(), create("a", 1, keeps()), remove("q"), commit("", "a", 0, 5)) {
			k.asks("P23.2", r)
			k.feeds("P23.2", 1, asked(r))
		}
		for kind := range 6 {
			if kind != tidy && kind != sweep {
				k.steps("P23.2", kind, "a", 0)
			}
		}
		k.ticks("P23.1", 5)
		k.opens("P23.1")
		k.is("P23.2")
		k.crashes("P23.3", []int{1, 1, 1}, []int{0})
		k.is("P23.5")
		k.goesOn("P23.5")
	}
}

// TestCutAgain: a later Cut takes an earlier one's place, as long as nothing has answered ErrOff.
func TestCutAgain(t *testing.T) {
	k := stock(t)
	for i, n := range []int{0, 3, least, 1000} {
		k.cuts(n)
		k.cuts(1000)
		k.asks("P23.2", create(fmt.Sprint("more", i), 1, keeps()), add("a", 0, 7, 4+i, rec("k", "v", 1)))
	}
	k.is("P23.2")
	k.cuts(1000)
	k.cuts(0)
	if told := k.w.Do(create("last", 1, keeps())); told.Code != off {
		t.Fatalf("P23.2: cut off, Do = %s", shown(told))
	}
	k.l.b.Do(create("last", 1, keeps()), k.m.now)
	k.isOff("P23.2")
	k.crashes("P23.3", nil, nil)
	k.is("P23.5")
	for range 3 { // a crash leaves a device that is not cut, however far it goes
		k.goesOnMuch("P23.3")
		k.crashes("P23.3", []int{1, 1}, []int{3, 0})
	}
}

// goesOnMuch is many requests that need the device.
func (k *kit) goesOnMuch(promise string) {
	k.t.Helper()
	for i := range 100 {
		k.asks(promise, commit("g", "a", i%2, i))
	}
	k.is(promise)
}

// TestFoundBy: whichever call finds that the power is off, all others know.
func TestFoundBy(t *testing.T) {
	for i, try := range []attempt{byDo(create("new", 1, keeps())), byStep(sweep, "", 0), byStep(tidy, "", 0), byStep(retain, "s", 0), byStep(compact, "c", 0), byFeed(0, topics(), commit("g", "a", 0, 5)), byFeed(1, remove("a"))} {
		k := stock(t)
		k.cuts([]int{0, -1, least}[i%3])
		if _, row := try(k); len(row) != 2 {
			t.Fatalf("P23.2: call %d did without power", i)
		}
		for _, n := range []int{1000, most, 0} {
			k.isOff("P23.2")
			k.cuts(n)
		}
		was := k.m.now
		k.ticks("P23.1", 7) // time goes on without power
		if k.m.now != was+7 {
			t.Fatalf("the test's own time is %d", k.m.now)
		}
		k.isOff("P23.2")
		k.crashes("P23.3", nil, nil)
		k.is("P23.5")
		k.goesOn("P23.5")
	}
}
