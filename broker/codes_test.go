package broker_test

import (
	"fmt"
	"testing"

	"bollard/api"
	"bollard/producers"
)

// TestExample is the chapter's.
func TestExample(t *testing.T) {
	k := made(t, 600, 60)
	k.asks("P21.2", 0, create("a", 1, keeps()))
	two := []api.Record{rec("x", "1", 3), rec("y", "2", 3)}
	for range 2 {
		want := api.Response{Kind: 4, ID: 14, Offset: 0, Next: 2}
		if told := k.asks("P21.2", 0, add("a", 0, 7, 0, two...)); shown(told) != shown(want) {
			t.Errorf("P21.2: append = %s, want %s", shown(told), shown(want))
		}
	}
	k.answers("P21.2", gap, 0, add("a", 0, 7, 2, two...))
	k.again("P21.2")
}

// TestKinds: another Kind is ErrArg, whatever else a request has.
func TestKinds(t *testing.T) {
	k := stock(t, 900, 100)
	for _, n := range []int{least, least + 1, -256, -8, -4, -2, -1, 0, 9, 10, 11, 12, 255, 256, 257, 260, 1<<32 + 1, 1<<32 + 4, most - 1, most} {
		for _, r := range []api.Request{{}, create("new", 1, keeps()), remove("a"), add("a", 0, 0, 0, rec("k", "v", 1)), fetch("a", 0, 0, 100), commit("g", "a", 0, 5), offset("g", "a", 0)} {
			r.Kind = n
			k.answers("P21.2", arg, 5, r)
		}
	}
	k.again("P21.2")
}

// TestIDs: an ID is told as it was, with each Kind, refused or not.
func TestIDs(t *testing.T) {
	k := made(t, 900, 100)
	for i, id := range []int{0, 1, -1, most, least, 1 << 32, -1 << 32, 1<<31 - 1, 1 << 31} {
		name := fmt.Sprint("a", i)
		for _, r := range []api.Request{
			create(name, 1, thins()), create(name, 1, thins()), topics(), add(name, 0, 3, 0, rec("k", "v", 1)), add(name, 0, 3, 2, rec("k", "v", 1)),
			fetch(name, 0, 0, 9), fetch(name, 0, 9, 9), list(name, 0, 0), list(name, 1, 0), offset("g", name, 0), commit("g", name, 0, 4), commit("", name, 0, 4), offset("g", name, 0), remove(name), remove(name), {Kind: 9},
		} {
			r.ID = id
			if told := k.asks("P21.2", 0, r); told.ID != id || told.Kind != r.Kind {
				t.Errorf("P21.2: Do(%v) = %s", r, shown(told))
			}
		}
	}
}

// TestOtherFields: fields that a Kind does not name are not looked at.
func TestOtherFields(t *testing.T) {
	k := stock(t, 900, 100)
	noise := api.Request{Topic: "q/r", Part: -5, Parts: 99, Set: api.Settings{Segment: -1}, Producer: -7, Seq: -8, Records: []api.Record{{Time: -1}}, Offset: -9, Max: -2, Time: least, Group: "a/b"}
	r := noise
	r.Kind = 3
	k.answers("P21.2", ok, 0, r)
	r.Kind, r.Topic, r.Parts, r.Set = 1, "new", 2, thins()
	k.answers("P21.2", ok, -1, r)
	r = noise
	r.Kind, r.Topic, r.Part, r.Producer, r.Seq, r.Records = 4, "a", 0, 0, 0, []api.Record{rec("k", "v", 0)}
	k.answers("P21.2", ok, -1, r)
	r = noise
	r.Kind, r.Topic, r.Part, r.Offset, r.Max = 5, "a", 0, 0, 5000
	k.answers("P21.2", ok, -1, r)
	r.Kind, r.Offset, r.Max, r.Time = 6, -1, -1, 4
	k.answers("P21.2", ok, -1, r)
	r.Kind, r.Offset, r.Group = 7, 3, "g"
	k.answers("P21.2", ok, 1, r)
	r.Kind, r.Offset = 8, -1
	k.answers("P21.2", ok, -1, r)
	r = noise
	r.Kind, r.Topic = 2, "a"
	k.answers("P21.2", ok, -1, r)
	k.again("P21.2")
}

// full20 is a broker with 20 topics, a and c among them; c is compacted.
func full20(t *testing.T) *kit {
	t.Helper()
	k := made(t, 1200, 200)
	k.asks("P21.2", 0, create("a", 2, keeps()), create("c", 1, thins()))
	for i := range 18 {
		k.answers("P21.2", ok, 0, create(fmt.Sprint("b", i), 1, keeps()))
	}
	return k
}

// TestCreateCodes: ErrArg, ErrExist, ErrBig, in this order; ErrFull is the last one.
func TestCreateCodes(t *testing.T) {
	k := full20(t)
	wrong := keeps()
	wrong.Segment = 511
	k.answers("P21.2", arg, 0, create("a", 0, keeps()), create("a", 9, keeps()), create("a", 1, wrong), create("new", 0, keeps()), create("new", 1, wrong), create("new/", 1, keeps()), create("", 1, keeps()))
	k.answers("P21.2", exist, 0, create("a", 2, keeps()), create("b17", 8, thins()))
	k.answers("P21.2", big, 0, create("new", 1, keeps()), create("A", 8, thins()))
	k.prepares()
	k.takes(0)
	k.answers("P21.2", big, 0, create("new", 1, keeps()))
	k.answers("P21.2", exist, 0, create("a", 2, keeps()))
	k.answers("P21.2", arg, 0, create("a", 9, keeps()))
	k.answers("P21.2", ok, 0, remove("b3"))
	k.still("P21.2", "what is refused", func() {
		if told := k.b.Do(create("new", 1, keeps()), 0); shown(told) != "1#11 3 0 0 0 [] []" {
			t.Errorf("P21.2: create without room = %s", shown(told))
		}
	})
	k.again("P21.2")
}

// TestDeleteCodes: ErrNone of all that is no topic.
func TestDeleteCodes(t *testing.T) {
	k := stock(t, 900, 100)
	k.answers("P21.2", none, 0, remove("gone"), remove("q"), remove("A"), remove("a "), remove("aa"))
	for _, name := range wrongNames() {
		k.answers("P21.2", none, 0, remove(name))
	}
	k.answers("P21.2", ok, 0, remove("a"))
	k.answers("P21.2", none, 0, remove("a"))
	k.again("P21.2")
}

// knows60 lets 60 producers be known in a partition: 1 to 60, each with Seq 0.
func (k *kit) knows60(topic string, part int) {
	k.t.Helper()
	for i := range 60 {
		k.answers("P21.2", ok, 0, add(topic, part, 1+i, 0, rec("k", fmt.Sprint(i), 5)))
	}
}

// TestAppendCodes: of two that hold at once the first is told.
func TestAppendCodes(t *testing.T) {
	k := stock(t, 900, 100)
	right, great, wrong := rec("k", "v", 1), rec("k", long(2001), 1), rec("k", "v", -1)
	many := make([]api.Record, 101)
	for i := range many {
		many[i] = great
	}
	// ErrNone: the topic, the Part, ahead of all that is wrong with the batch.
	for _, topic := range []string{"gone", "q", "", "a/b", "A"} {
		k.answers("P21.2", none, 0, add(topic, 0, 0, 0, right), add(topic, 0, -1, 0, right), add(topic, 0, 0, 1, right), add(topic, 0, 0, 0), add(topic, 0, 7, 9, great))
	}
	for _, part := range []int{2, -1, 8, most, least} {
		k.answers("P21.2", none, 0, add("a", part, 0, 0, right), add("a", part, -1, 0, right), add("a", part, 0, 1, right), add("a", part, 0, 0), add("a", part, 7, 9, great))
	}
	// ErrArg of Producer and Seq, and of a record without a key, ahead of Fresh's ErrBig.
	k.answers("P21.2", arg, 0, add("a", 0, -1, 0, right), add("a", 0, least, 0, great), add("a", 0, 0, 1, right), add("a", 0, 0, -1, right), add("a", 0, 0, 1, great), add("a", 0, 0, most, great), add("c", 0, 0, 0, great, bare("v", 1)), add("c", 0, 7, 5, great, bare("v", 1)), add("c", 0, 7, 5, bare("v", 1)))
	// Fresh's, in its own order, ahead of what the producer's number says.
	k.answers("P21.2", arg, 0, add("a", 0, 7, 5), add("a", 0, 7, 9), add("a", 0, 9, 5), add("a", 0, 7, 5, many...), add("a", 0, 7, 9, wrong, great), add("a", 0, 7, -1, right), add("a", 0, 7, least, great))
	k.answers("P21.2", big, 0, add("a", 0, 7, 5, great), add("a", 0, 7, 9, great, wrong), add("a", 0, 8, 3, great), add("a", 0, 0, 0, great), add("c", 0, 7, 9, great))
	// Check's.
	k.answers("P21.2", gap, 0, add("a", 0, 7, 4, right), add("a", 0, 7, 7, right), add("a", 0, 8, 1, right), add("a", 1, 7, 6, right), add("c", 0, 7, most, right))
	k.answers("P21.2", ok, 0, add("a", 0, 7, 5, right), add("a", 0, 7, 6, right), add("a", 0, 7, 6, right), add("a", 0, 0, 0, right))
	k.again("P21.2")
	// ErrBig of a 61st producer, ahead of ErrGap; those who are known go on.
	k.asks("P21.2", 0, create("p", 1, keeps()))
	k.knows60("p", 0)
	k.answers("P21.2", big, 0, add("p", 0, 61, 0, right), add("p", 0, 61, 1, right), add("p", 0, most, 7, right))
	k.answers("P21.2", arg, 0, add("p", 0, 61, 0), add("p", 0, 61, -1, right), add("p", 0, 61, 0, wrong))
	k.answers("P21.2", gap, 0, add("p", 0, 60, 2, right))
	k.answers("P21.2", ok, 0, add("p", 0, 60, 0, right), add("p", 0, 60, 1, right), add("p", 0, 1, 1, right), add("p", 0, 0, 0, right))
	k.again("P21.2")
	// Without room: ErrFull is the last one, and what is there already is told all the same.
	k.prepares()
	k.takes(0)
	k.answers("P21.2", big, 0, add("p", 0, 61, 0, right), add("a", 0, 7, 9, great))
	k.answers("P21.2", gap, 0, add("a", 0, 7, 9, right))
	k.answers("P21.2", ok, 0, add("a", 0, 7, 6, right), add("p", 0, 60, 1, right))
	k.still("P21.2", "what is refused", func() {
		if told := k.b.Do(add("a", 0, 7, 7, sized(900)...), 0); shown(told) != "4#14 3 0 0 0 [] []" {
			t.Errorf("P21.2: append without room = %s", shown(told))
		}
	})
	k.again("P21.2")
}

// TestFetchCodes: ErrNone, ErrArg, ErrRange, in this order.
func TestFetchCodes(t *testing.T) {
	k := stock(t, 900, 100)
	for _, x := range []struct{ offset, most int }{{0, 10}, {0, 0}, {-1, 0}, {99, 10}, {least, least}, {most, most}} {
		k.answers("P21.2", none, 0, fetch("gone", 0, x.offset, x.most), fetch("q", 0, x.offset, x.most), fetch("a/b", 0, x.offset, x.most), fetch("a", 2, x.offset, x.most), fetch("a", -1, x.offset, x.most), fetch("c", 1, x.offset, x.most))
	}
	for _, n := range []int{0, -1, least} {
		k.answers("P21.2", arg, 0, fetch("a", 0, 0, n), fetch("a", 0, 12, n), fetch("a", 0, 13, n), fetch("a", 0, -1, n), fetch("a", 0, most, n))
	}
	k.answers("P21.2", outside, 0, fetch("a", 0, -1, 1), fetch("a", 0, 13, 1), fetch("a", 0, most, most), fetch("a", 0, least, 1))
	k.answers("P21.2", ok, 0, fetch("a", 0, 0, 1), fetch("a", 0, 12, 1))
	k.again("P21.2")
}

// TestListCodes: ErrNone alone.
func TestListCodes(t *testing.T) {
	k := stock(t, 900, 100)
	for _, time := range []int{0, 5, least, most} {
		k.answers("P21.2", none, 0, list("gone", 0, time), list("q", 0, time), list("", 0, time), list("a", 2, time), list("a", -1, time), list("a", most, time), list("a", least, time))
		k.answers("P21.2", ok, 0, list("a", 0, time), list("a", 1, time), list("c", 0, time))
	}
}

// TestCommitCodes: ErrNone, ErrArg, ErrBig, in this order; ErrFull is the last one.
func TestCommitCodes(t *testing.T) {
	k := stock(t, 900, 100)
	for i := 0; len(k.q.offsets) < 200; i++ {
		k.answers("P21.2", ok, i, commit(fmt.Sprint("m", i), "a", i%2, i))
	}
	for _, x := range []struct {
		group       string
		offset, now int
	}{{"g", 5, 5}, {"", 5, 5}, {"new", 5, 5}, {"g", -1, 5}, {"g", 5, -1}, {"a/b", end + 1, end + 1}} {
		k.answers("P21.2", none, x.now, commit(x.group, "gone", 0, x.offset), commit(x.group, "q", 0, x.offset), commit(x.group, "a", 2, x.offset), commit(x.group, "a", -1, x.offset), commit(x.group, "", 0, x.offset))
	}
	k.answers("P21.2", arg, 5, commit("", "a", 0, 5), commit("a/b", "a", 0, 5), commit("new", "a", 0, -1), commit("g", "a", 0, end+1))
	k.answers("P21.2", arg, -1, commit("g", "a", 0, 5), commit("new", "a", 0, 5))
	k.answers("P21.2", arg, end+1, commit("g", "a", 0, 5), commit("new", "a", 0, 5))
	k.answers("P21.2", big, 5, commit("new", "a", 0, 5), commit("G", "a", 0, 5), commit("m0", "a", 1, 5), commit("m0", "c", 0, 5))
	k.answers("P21.2", ok, 5, commit("g", "a", 0, 7), commit("m0", "a", 0, 8))
	k.prepares()
	k.takes(0)
	k.answers("P21.2", big, 5, commit("new", "a", 0, 5))
	k.answers("P21.2", arg, -1, commit("g", "a", 0, 5))
	code := ok
	for i := 0; code == ok; i++ {
		var was string
		k.still("P21.2", "what only looks", func() { was = k.raw("/") })
		if code = k.b.Do(commit("g", "a", 0, 100+i), 5).Code; code == ok {
			k.q.do(commit("g", "a", 0, 100+i), 5)
			continue
		}
		k.same("P21.2", "what is refused", k.raw("/"), was)
	}
	if code != full {
		t.Errorf("P21.2: commit without room = %d, want ErrFull", code)
	}
	k.again("P21.2")
}

// TestOffsetCodes: ErrNone of the topic and the Part, ErrArg of the Group, ErrNone of what is not known.
func TestOffsetCodes(t *testing.T) {
	k := stock(t, 900, 100)
	for _, group := range append(wrongNames(), "g", "new") {
		k.answers("P21.2", none, 0, offset(group, "gone", 0), offset(group, "q", 0), offset(group, "a", 2), offset(group, "a", -1), offset(group, "", 0))
	}
	for _, group := range wrongNames() {
		k.answers("P21.2", arg, 0, offset(group, "a", 0), offset(group, "c", 0))
	}
	k.answers("P21.2", none, 0, offset("new", "a", 0), offset("G", "a", 0), offset("g", "c", 0), offset("h1", "a", 0), offset("h", "c", 0), offset("h11", "c", 0))
	k.answers("P21.2", ok, 0, offset("g", "a", 0), offset("g", "a", 1), offset("h1", "c", 0))
}

// TestTopics: the names, rising by their bytes, each with its parts.
func TestTopics(t *testing.T) {
	k := made(t, 1500, 300)
	k.asks("P21.2", 0, topics())
	for i, name := range append([]string{"b", "a", "ab", "B", "aa", "10", "9"}, edgeNames()...) {
		k.answers("P21.2", ok, 0, create(name, 1+i%3, keeps()), topics())
	}
	k.again("P21.2")
	for _, name := range []string{"ab", "B", long(50)} {
		k.answers("P21.2", ok, 0, remove(name), topics())
	}
	k.again("P21.2")
}

// TestNames: names that 9 refuses are no topic's and no group's; all others may be.
func TestNames(t *testing.T) {
	k := stock(t, 1500, 300)
	for _, name := range wrongNames() {
		k.answers("P21.2", arg, 0, create(name, 1, keeps()), commit(name, "a", 0, 5), offset(name, "a", 0))
		k.answers("P21.2", none, 0, remove(name), add(name, 0, 0, 0, rec("k", "v", 0)), fetch(name, 0, 0, 1), list(name, 0, 0), commit("g", name, 0, 5), offset("g", name, 0))
		if k.retains("P21.3", name, 0, 0) || k.compacts("P21.3", name, 0, 0) {
			t.Errorf("P21.3: the topic %.60q is there", name)
		}
	}
	for i, name := range edgeNames() {
		k.answers("P21.2", ok, 0, create(name, 1, keeps()), add(name, 0, 1+i, 0, rec(name, name, i)), commit(name, name, 0, i), offset(name, name, 0))
	}
	k.again("P21.2")
	for _, name := range edgeNames() {
		k.answers("P21.2", ok, 0, fetch(name, 0, 0, 1), offset(name, name, 0), remove(name))
		k.answers("P21.2", none, 0, fetch(name, 0, 0, 1), offset(name, name, 0))
	}
	k.again("P21.2")
}

// TestParts: Parts 1 to 8, Part 0 to one below Parts.
func TestParts(t *testing.T) {
	k := made(t, 1500, 300)
	for _, n := range []int{least, least + 1, -8, -1, 0, 9, 10, 256 + 1, 1<<32 + 1, most} {
		k.answers("P21.2", arg, 0, create("new", n, keeps()))
	}
	for n := 1; n <= 8; n++ {
		name := fmt.Sprint("a", n)
		k.answers("P21.2", ok, 0, create(name, n, thins()))
		for _, part := range []int{least, least + 1, -256, -2, -1, n, n + 1, 8, 9, 256, 1 << 32, most} {
			k.answers("P21.2", none, 0, add(name, part, 0, 0, rec("k", "v", 0)), fetch(name, part, 0, 1), list(name, part, 0), commit("g", name, part, 5), offset("g", name, part))
			if k.retains("P21.3", name, part, 0) || k.compacts("P21.3", name, part, 0) {
				t.Errorf("P21.3: the part %d of %d is there", part, n)
			}
		}
		for part := range n {
			k.answers("P21.2", ok, 0, add(name, part, 7, 0, rec("k", fmt.Sprint(part), part)), commit("g", name, part, 10*part), fetch(name, part, 0, 1), offset("g", name, part))
			k.retains("P21.3", name, part, 0)
			k.compacts("P21.3", name, part, 0)
		}
	}
	k.again("P21.2")
}

// TestSettings: each field of Set at its edges.
func TestSettings(t *testing.T) {
	right := api.Settings{Segment: 1000, Bytes: 5, Age: 6, Delay: 7}
	fields := []struct {
		field *int
		right []int
		wrong []int
	}{
		{&right.Segment, []int{512, 513, 8191, 8192}, []int{511, 8193, 0, -1, -512, 1<<32 + 512, least, most}},
		{&right.Bytes, []int{-1, 0, 1, 1<<40 - 1, 1 << 40}, []int{-2, 1<<40 + 1, least, most}},
		{&right.Age, []int{-1, 0, 1, end - 1, end}, []int{-2, end + 1, least, most}},
		{&right.Delay, []int{0, 1, end - 1, end}, []int{-1, -2, end + 1, least, most}},
	}
	k := made(t, 900, 100)
	n := 0
	for _, x := range fields {
		was := *x.field
		for _, v := range x.wrong {
			*x.field = v
			right.Compact = !right.Compact
			k.answers("P21.2", arg, 0, create("a", 1, right))
		}
		for _, v := range x.right {
			*x.field = v
			right.Compact = !right.Compact
			name := fmt.Sprint("s", n)
			n++
			k.answers("P21.2", ok, 0, create(name, 1, right))
			for i := range 3 { // what the settings say is so, behind an Open too
				k.asks("P21.2", 0, add(name, 0, 0, 0, rec("k", long(400), i), tomb(fmt.Sprint("t", i), i)))
			}
			k.opens()
			for _, now := range []int{0, 5, 8, 9, end, most} {
				k.retains("P21.3", name, 0, now)
				k.compacts("P21.3", name, 0, now)
				k.is("P21.3")
			}
			k.answers("P21.2", ok, 0, remove(name))
			for k.sweeps("P21.3") {
			}
		}
		*x.field = was
	}
	k.again("P21.2")
}

// TestGreatNumbers: Producer and Seq at the greatest ints.
func TestGreatNumbers(t *testing.T) {
	k := made(t, 900, 100)
	r := rec("k", "v", 1)
	k.asks("P21.2", 0, create("a", 1, keeps()))
	k.answers("P21.2", gap, 0, add("a", 0, most, most, r), add("a", 0, most, 1, r))
	k.answers("P21.2", ok, 0, add("a", 0, most, 0, r), add("a", 0, most, 0, r), add("a", 0, most-1, 0, r))
	k.answers("P21.2", gap, 0, add("a", 0, most, most, r), add("a", 0, most, 2, r))
	k.accepts("/topics/t1-0/producers", most, most-1, 1)
	k.q.topics["a"].logs[0].known[most] = accepted{most - 1, 1}
	k.opens()
	k.answers("P21.2", ok, 0, add("a", 0, most, most-1, r))
	k.answers("P21.2", gap, 0, add("a", 0, most, most-2, r), add("a", 0, most, 0, r))
	k.answers("P21.2", ok, 0, add("a", 0, most, most, r), add("a", 0, most, most, r))
	k.answers("P21.2", arg, 0, add("a", 0, most, least, r), add("a", 0, most, -1, r), add("a", 0, least, most, r), add("a", 0, least, 0, r), add("a", 0, 0, least, r), add("a", 0, 0, most, r))
	k.answers("P21.2", gap, 0, add("a", 0, most, 0, r), add("a", 0, most, most-1, r))
	k.remount()
	k.answers("P21.2", ok, 0, add("a", 0, most, most, r), fetch("a", 0, 0, most))
}

// accepts lets a number be known that no test could come to by appending.
func (k *kit) accepts(path string, producer, seq, base int) {
	k.t.Helper()
	p, e := producers.Open(k.f, path)
	k.do(e, p.Accept(producer, seq, base))
}

// TestLastOffset: where Next is at the greatest offset a batch goes in, and none behind it: Fresh's ErrArg with the base Next comes ahead of all that its producer's number says.
func TestLastOffset(t *testing.T) {
	k := made(t, 900, 100)
	r := rec("k", "v", 1)
	k.asks("P21.2", 0, create("a", 2, keeps()))
	k.do(k.f.Rename("/topics/t1-1/00000000000000000000", "/topics/t1-1/00001125899906842624"))
	k.q.topics["a"].logs[1].row[0].base = end
	k.opens()
	k.is("P21.2")
	k.answers("P21.2", ok, 0, add("a", 1, 7, 0, r, r), fetch("a", 1, end, 1), fetch("a", 1, end+2, 1), list("a", 1, 2))
	k.answers("P21.2", arg, 0, add("a", 1, 7, 1, r), add("a", 1, 7, 0, r, r), add("a", 1, 7, 5, r), add("a", 1, 0, 0, r), add("a", 1, 8, 1, r))
	k.answers("P21.2", ok, 0, add("a", 0, 7, 0, r), fetch("a", 1, end+1, 1))
}
