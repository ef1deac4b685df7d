package broker_test

import (
	"fmt"
	"slices"
	"testing"

	"bollard/api"
)

// TestRecords: none, 1, 100 and 101 of them; those that 12 refuses, wherever they stand.
func TestRecords(t *testing.T) {
	k := made(t, 900, 100)
	k.asks("P21.2", 0, create("a", 1, keeps()), create("c", 1, thins()))
	row := func(n int) (l []api.Record) {
		for i := range n {
			l = append(l, rec(fmt.Sprint("k", i%7), "v", 1000-i))
		}
		return l
	}
	for _, topic := range []string{"a", "c"} {
		k.answers("P21.2", arg, 0, add(topic, 0, 0, 0), add(topic, 0, 0, 0, []api.Record{}...), add(topic, 0, 0, 0, row(101)...), add(topic, 0, 1, 0, row(102)...), add(topic, 0, 1, 0, row(1000)...))
		k.answers("P21.2", ok, 0, add(topic, 0, 0, 0, row(1)...), add(topic, 0, 0, 0, row(99)...), add(topic, 0, 1, 0, row(100)...))
		for _, x := range []struct {
			want api.Errno
			r    api.Record
		}{
			{arg, api.Record{HasKey: true, Key: "k", Val: "v"}},
			{arg, rec("k", "v", -1)}, {arg, rec("k", "v", least)}, {arg, rec("k", "v", end+1)}, {arg, rec("k", "v", most)},
			{big, rec(long(2001), "v", 1)}, {big, rec("k", long(2001), 1)}, {big, rec("k", long(100000), 1)}, {big, tomb(long(2001), 1)},
			{ok, rec(long(2000), "v", 1)}, {ok, rec("k", long(2000), 1)}, {ok, rec("", "", 0)}, {ok, rec("k", "v", end)}, {ok, tomb("", end)}, {ok, rec("\x00\xff", "\x00", 5)},
		} {
			for at := range 3 {
				l := slices.Insert([]api.Record{rec("k", "v", 9), tomb("k", 8)}, at, x.r)
				k.answers("P21.2", x.want, 0, add(topic, 0, 0, 0, l...))
			}
		}
	}
	k.answers("P21.2", arg, 0, add("a", 0, 0, 0, api.Record{Key: "k", HasVal: true}), add("a", 0, 0, 0, api.Record{Val: "v"}))
	k.answers("P21.2", ok, 0, add("a", 0, 0, 0, api.Record{}), add("a", 0, 0, 0, bare("v", 1), api.Record{Time: end}))
	k.again("P21.2")
}

// TestOffs: what records say of their places is not looked at.
func TestOffs(t *testing.T) {
	k := made(t, 900, 100)
	k.asks("P21.2", 0, create("a", 1, keeps()))
	var l []api.Record
	for i, off := range []int{0, 99, 100, -1, most, least, 3, 3} {
		r := rec(fmt.Sprint("k", i), "v", i)
		r.Off = off
		l = append(l, r)
	}
	k.answers("P21.2", ok, 0, add("a", 0, 0, 0, l...), add("a", 0, 3, 0, l...), fetch("a", 0, 0, most))
	k.again("P21.2")
}

// TestBatchBytes: a batch of just 6000 bytes, and one of a byte more.
func TestBatchBytes(t *testing.T) {
	for _, segment := range []int{512, 6000, 8192} {
		k := made(t, 900, 100)
		set := keeps()
		set.Segment = segment
		k.asks("P21.2", 0, create("a", 1, set))
		for i := range 3 {
			k.answers("P21.2", big, 0, add("a", 0, 4, i, sized(6001)...), add("a", 0, 0, 0, sized(6002)...), add("a", 0, 4, i, sized(20000)...))
			k.answers("P21.2", ok, 0, add("a", 0, 4, i, sized(6000)...), add("a", 0, 0, 0, sized(5999)...), add("a", 0, 0, 0, sized(300)...))
		}
		k.again("P21.2")
	}
}

// TestKeys: of a topic with Compact a record without a key is refused ahead of, between and behind others; of one without it is not.
func TestKeys(t *testing.T) {
	k := made(t, 900, 100)
	k.asks("P21.2", 0, create("a", 1, keeps()), create("c", 1, thins()))
	for at := range 4 {
		for _, r := range []api.Record{bare("v", 1), {}, {Time: 5}} {
			l := slices.Insert([]api.Record{rec("k", "v", 9), tomb("", 8), rec("l", "", 7)}, at, r)
			k.answers("P21.2", arg, 0, add("c", 0, 0, 0, l...), add("c", 0, 9, 0, l...), add("c", 0, 0, 0, r))
			k.answers("P21.2", ok, 0, add("a", 0, 0, 0, l...), add("a", 0, 0, 0, r))
		}
	}
	k.answers("P21.2", ok, 0, add("c", 0, 0, 0, rec("k", "v", 9), tomb("", 8), rec("", "", 7)), add("c", 0, 9, 0, tomb("k", 1)))
	k.answers("P21.2", arg, 0, add("c", 0, 9, 0, bare("v", 1)))
	k.again("P21.2")
}

// TestProducers: a new one begins with 0; the same number comes again, one more is next, all others leave one out.
func TestProducers(t *testing.T) {
	k := made(t, 900, 100)
	k.asks("P21.2", 0, create("a", 2, keeps()))
	r := rec("k", "v", 1)
	for _, p := range []int{1, 2, 1000, end, most} {
		k.answers("P21.2", gap, 0, add("a", 0, p, 1, r), add("a", 0, p, 2, r), add("a", 0, p, most, r))
		for seq := range 5 {
			k.answers("P21.2", ok, 0, add("a", 0, p, seq, r, r), add("a", 0, p, seq, r), add("a", 0, p, seq, r, r, r))
			k.answers("P21.2", gap, 0, add("a", 0, p, seq+2, r), add("a", 0, p, seq+3, r), add("a", 0, p, most, r))
			if seq > 0 {
				k.answers("P21.2", gap, 0, add("a", 0, p, seq-1, r), add("a", 0, p, 0, r))
			}
			k.answers("P21.2", ok, 0, add("a", 0, 0, 0, r))
		}
		k.is("P21.6")
	}
	k.answers("P21.2", ok, 0, add("a", 1, 1, 0, r)) // another part's numbers are its own
	k.again("P21.6")
}

// TestNobody: batches of nobody's are all new, and known by no number.
func TestNobody(t *testing.T) {
	k := made(t, 900, 100)
	k.asks("P21.2", 0, create("a", 1, keeps()))
	k.knows60("a", 0)
	r := rec("k", "v", 1)
	for i := range 5 {
		if told := k.asks("P21.2", 0, add("a", 0, 0, 0, r)); told.Offset != 60+i {
			t.Errorf("P21.2: append = %s", shown(told))
		}
	}
	k.answers("P21.2", arg, 0, add("a", 0, 0, 1, r), add("a", 0, 0, -1, r))
	k.again("P21.2")
}

// TestManyProducers: 60 of a partition and no more, behind an Open too; each partition has its own.
func TestManyProducers(t *testing.T) {
	k := made(t, 1500, 300)
	k.asks("P21.2", 0, create("a", 2, keeps()), create("b", 1, keeps()))
	r := rec("k", "v", 1)
	k.knows60("a", 0)
	for range 2 {
		k.answers("P21.2", big, 0, add("a", 0, 61, 0, r), add("a", 0, most, 0, r))
		k.answers("P21.2", ok, 0, add("a", 1, 61, 0, r), add("b", 0, 61, 0, r))
		k.remount()
	}
	for i := range 60 {
		k.answers("P21.2", ok, 0, add("a", 0, 1+i, 0, r), add("a", 0, 1+i, 1, r))
	}
	k.again("P21.6")
	k.answers("P21.2", ok, 0, remove("a"), create("a", 1, keeps()), add("a", 0, 61, 0, r))
	k.again("P21.6")
}

// TestAgain: a batch that is sent again tells its first base, with Start and Next as they are then, and changes nothing: behind an Open, a crash, a Compact and a Retain too.
func TestAgain(t *testing.T) {
	k := made(t, 900, 100)
	s := sheds()
	s.Compact = true
	k.asks("P21.2", 0, create("s", 1, s))
	r := rec("k", long(300), 10)
	again := func() {
		k.t.Helper()
		log := k.q.topics["s"].logs[0]
		for p, was := range log.known {
			want := api.Response{Kind: 4, ID: 14, Offset: was.base, Start: log.start(), Next: log.next()}
			k.still("P21.6", "a batch that is sent again", func() {
				if told := k.asks("P21.6", 0, add("s", 0, p, was.seq, rec("other", "v", 3))); shown(told) != shown(want) {
					t.Fatalf("P21.2: again = %s, want %s", shown(told), shown(want))
				}
			})
		}
	}
	for i := range 8 {
		k.answers("P21.2", ok, 0, add("s", 0, 1+i%2, i/2, r, r))
		again()
	}
	k.answers("P21.2", ok, 0, add("s", 0, 5, 0, r))
	first := k.q.topics["s"].logs[0].known[1].base
	for i := 0; k.compacts("P21.3", "s", 0, 20); i++ {
		again()
	}
	for k.retains("P21.3", "s", 0, 1000) {
		again()
		k.opens()
		again()
		k.remount()
		again()
	}
	if start := k.asks("P21.2", 0, list("s", 0, 0)).Start; start <= first {
		t.Errorf("the test's own log begins at %d, and the batch at %d", start, first)
	}
	k.answers("P21.2", ok, 0, add("s", 0, 1, 4, r))
	again()
	k.again("P21.6")
}

// TestSegments: where a new segment begins hangs on the batch's bytes; offsets go on over it.
func TestSegments(t *testing.T) {
	k := made(t, 900, 100)
	k.asks("P21.2", 0, create("a", 1, keeps()))
	for _, n := range []int{256, 256, 200, 312, 200, 313, 512, 513, 600, 200, 200} {
		k.answers("P21.2", ok, 0, add("a", 0, 0, 0, sized(n)...), fetch("a", 0, 0, most))
	}
	if l := k.folders()["t1-0"]; len(l) != 9 {
		t.Errorf("P21.2: the files are %q", l)
	}
	k.again("P21.2")
}

// TestCreatedAgain: a topic that is deleted and created again is empty: nobody's offset of it is known, nor its producers; swept or not.
func TestCreatedAgain(t *testing.T) {
	for _, swept := range []bool{false, true} {
		k := made(t, 900, 150)
		r := rec("k", long(200), 4)
		for i, set := range []api.Settings{keeps(), thins(), sheds(), keeps()} {
			k.answers("P21.2", ok, 0, create("a", 1+i%2, set))
			k.answers("P21.2", none, 0, offset("g", "a", 0))
			k.answers("P21.2", gap, 0, add("a", 0, 7, 1, r), add("a", 0, 7, 2, r))
			want := api.Response{Kind: 5, ID: 15}
			if told := k.asks("P21.2", 0, fetch("a", 0, 0, 100)); shown(told) != shown(want) {
				t.Errorf("P21.2: a new topic tells %s", shown(told))
			}
			for seq := range 4 {
				k.answers("P21.2", ok, 0, add("a", 0, 7, seq, r, r), commit("g", "a", 0, 10*seq))
			}
			k.is("P21.2")
			k.answers("P21.2", ok, 0, remove("a"))
			k.answers("P21.2", none, 0, remove("a"), add("a", 0, 7, 4, r), fetch("a", 0, 0, 1), list("a", 0, 0), commit("g", "a", 0, 1), offset("g", "a", 0))
			for swept && k.sweeps("P21.3") {
			}
			if i%2 == 0 {
				k.remount()
			}
		}
		k.again("P21.2")
	}
}
