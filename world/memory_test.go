package world_test

import (
	"bytes"
	"slices"
	"testing"

	"bollard/api"
)

// fill writes v over a list and its spare room, and appends to it.
func fill[T any](l []T, v T) {
	_ = append(l, v, v)
	all := l[:cap(l)]
	for i := range all {
		all[i] = v
	}
}

// guarded is a list with others ahead of and behind it, in one piece of memory.
func guarded[T any](l []T, mark T) (all, mine []T) {
	all = slices.Concat([]T{mark, mark}, l, []T{mark, mark, mark})
	return all, all[2 : 2+len(l)]
}

// spoil writes over all lists of a response.
func spoil(r api.Response) {
	for _, b := range r.Batches {
		fill(b.Records, api.Record{HasKey: true, Key: "spoilt", Time: 99, Off: 99})
	}
	fill(r.Topics, "spoilt")
	fill(r.Parts, 99)
	fill(r.Batches, api.Batch{Base: 99})
}

// TestRecordsHandedIn: records stay as they are, and so does what is around them; written over, they change nothing that is told, behind a crash neither.
func TestRecordsHandedIn(t *testing.T) {
	k := stock(t)
	mark := api.Record{HasKey: true, Key: "mark", Off: 50}
	great, odd := rec("k", long(2001), 1), bare("v", 1)
	odd.Off = 7
	for i, r := range []api.Request{
		add("a", 0, 0, 0, rec("k", "v", 1), odd, tomb("l", 3)), // done
		add("a", 0, 7, 4, rec("k", "v", 1), odd, tomb("l", 3)), // done, of a producer's
		add("a", 0, 7, 4, rec("k", "v", 1), odd),               // again
		add("a", 0, 7, 9, rec("k", "v", 1), odd),               // refused, each for another reason
		add("a", 0, 0, 0, rec("k", "v", 1), great),
		add("c", 0, 0, 0, rec("k", "v", 1), odd),
		add("q", 0, 0, 0, rec("k", "v", 1), odd),
	} {
		all, mine := guarded(r.Records, mark)
		was := slices.Clone(all)
		r.Records = mine
		k.asks("P23.5", r)
		if !slices.Equal(all, was) {
			t.Fatalf("P23.1: request %d: Do changed what was handed in: %v, was %v", i, all, was)
		}
		k.cutOffWith(all, mine, i)
		fill(all, mark)
		k.is("P23.5")
	}
	k.crashes("P23.3", nil, nil)
	k.is("P23.5")
}

// cutOffWith: a request that finds no power, and one behind it, leave what they were handed.
func (k *kit) cutOffWith(all, mine []api.Record, i int) {
	k.t.Helper()
	was := slices.Clone(all)
	k.cuts(i % 3)
	for range 2 {
		r := add("a", 1, 0, 0, mine...)
		r.Records = mine
		k.l.b.Do(r, k.m.now)
		k.w.Do(r)
	}
	if !slices.Equal(all, was) {
		k.t.Fatalf("P23.2: cut off, Do changed what was handed in: %v, was %v", all, was)
	}
	if k.crashes("P23.3", nil, nil); !k.matches(k.m.q) {
		k.t.Fatalf("P23.5: what was cut off ahead of all flushes is there")
	}
}

// TestBytesHandedIn: pieces stay as they are, and so does what is around them; written over, they change nothing that is told later.
func TestBytesHandedIn(t *testing.T) {
	row := slices.Concat(asked(every()...), framed(9), asked(add("s", 0, 0, 0, rec("k", long(1900), 1)), fetch("s", 0, 5, most)), asked(topics())[:7])
	for _, apart := range []int{1, 3, 20, 300, 20000} {
		k := stock(t)
		for p := range slices.Chunk(row, apart) {
			all, mine := guarded(p, 0xAA)
			was := slices.Clone(all)
			k.feeds("P23.1", 1, mine)
			if !bytes.Equal(all, was) {
				t.Fatalf("P23.1: Feed changed what was handed in: %x, was %x", all, was)
			}
			fill(all, 0xEE)
		}
		k.is("P23.5")
		k.crashes("P23.3", nil, nil)
		k.is("P23.5")
	}
}

// TestNumbersHandedIn: picks and cuts stay as they are, and so does what is around them; written over, they change nothing.
func TestNumbersHandedIn(t *testing.T) {
	x := dice(5)
	for i, cuts := range cutRows() {
		for _, picked := range pickRows(&x) {
			k := stock(t)
			k.cuts(i % 4)
			_, row := byDo(add("a", 0, 7, 4, rec("k", "v", 1)))(k)
			allPicks, minePicks := guarded(picked, 77)
			allCuts, mineCuts := guarded(cuts, 66)
			wasPicks, wasCuts := slices.Clone(allPicks), slices.Clone(allCuts)
			k.crashes("P23.3", minePicks, mineCuts)
			if !slices.Equal(allPicks, wasPicks) || !slices.Equal(allCuts, wasCuts) {
				t.Fatalf("P23.3: Crash changed what was handed in")
			}
			fill(allPicks, 1)
			fill(allCuts, 0)
			if !k.matches(row[0]) {
				k.m.q = row[1]
			}
			k.is("P23.5")
			if len(picked) == 1 {
				k.goesOn("P23.5")
			}
		}
	}
}

// TestAnswered: answers are new memory: written over, they change neither what is told later nor what was told before.
func TestAnswered(t *testing.T) {
	k := stock(t)
	var kept []api.Response
	var was []string
	for round := range 4 {
		for _, r := range append(every(), k.m.q.looks()...) {
			first := k.asks("P23.5", r)
			kept, was = append(kept, first), append(was, shown(first))
			second := k.w.Do(r)
			k.l.b.Do(r, k.m.now)
			k.m.q.do(r, k.m.now)
			spoil(second)
		}
		k.is("P23.5")
		if round%2 == 1 {
			k.crashes("P23.3", nil, []int{0})
			k.is("P23.5")
		}
	}
	for i := range kept {
		if shown(kept[i]) != was[i] {
			t.Fatalf("P23.5: what was answered is\n %.500s, was\n %.500s", shown(kept[i]), was[i])
		}
	}
	k.goesOn("P23.5")
}

// TestFedAnswered: so are those of Feed.
func TestFedAnswered(t *testing.T) {
	k := stock(t)
	var kept, was [][]byte
	for i := range 30 {
		piece := slices.Concat(framed(9), asked(every()...), asked(topics()))
		all, mine := guarded(piece, 0xAA)
		before := slices.Clone(all)
		want, _ := k.m.feed(i%2, piece)
		k.l.feed(i%2, piece, k.m.now)
		one, e := k.w.Feed(i%2, mine)
		if !bytes.Equal(one, want) || e != ok {
			t.Fatalf("P23.1: round %d: Feed = %s %d, want %s", i, brief(one), e, brief(want))
		}
		if i%2 == 0 {
			kept, was = append(kept, one), append(was, slices.Clone(one))
		} else {
			fill(one, 0xEE)
		}
		if !bytes.Equal(all, before) {
			t.Fatalf("P23.5: what was handed in changes with what was answered")
		}
		fill(all, 0xDD)
	}
	k.is("P23.5")
	k.crashes("P23.3", nil, nil)
	k.is("P23.5")
	for i := range kept {
		if !bytes.Equal(kept[i], was[i]) {
			t.Fatalf("P23.5: what was answered is\n %s, was\n %s", brief(kept[i]), brief(was[i]))
		}
	}
}
