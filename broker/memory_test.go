package broker_test

import (
	"slices"
	"testing"

	"bollard/api"
)

// fill writes v over l and its spare room, and appends to it.
func fill[T any](l []T, v T) {
	_ = append(l, v, v)
	all := l[:cap(l)]
	for i := range all {
		all[i] = v
	}
}

// spoil writes over all lists of a response.
func spoil(r api.Response) {
	for _, b := range r.Batches {
		fill(b.Records, api.Record{HasKey: true, Key: "spoilt", Time: 99, Off: 99})
	}
	fill(r.Topics, "spoilt")
	fill(r.Parts, 99)
	fill(r.Batches, api.Batch{Base: 99})
}

// TestHandedIn: records that are handed in stay as they are, and so do those ahead of and behind them; written over, they change nothing that is told.
func TestHandedIn(t *testing.T) {
	k := stock(t, 900, 100)
	mark := api.Record{HasKey: true, Key: "mark", Off: 50}
	great, keyless := rec("k", long(2001), 1), bare("v", 1)
	keyless.Off = 7
	for i, r := range []api.Request{
		add("a", 0, 0, 0, rec("k", "v", 1), keyless, tomb("l", 3)), // done
		add("a", 0, 7, 6, rec("k", "v", 1), keyless, tomb("l", 3)), // done, of a producer's
		add("a", 0, 7, 6, rec("k", "w", 1)),                        // again
		add("a", 0, 7, 9, rec("k", "v", 1), keyless),               // refused
		add("a", 0, 0, 0, keyless, great),
		add("c", 0, 0, 0, rec("k", "v", 1), keyless),
		add("c", 0, 0, 0, sized(900)...), // in a new segment
		add("q", 0, 0, 0, keyless),
		{Kind: 5, Topic: "a", Max: 100, Records: []api.Record{keyless, great}},
		{Kind: 9, Records: []api.Record{keyless, great}},
	} {
		all := append(append([]api.Record{mark, mark}, r.Records...), mark, mark, mark)
		was := slices.Clone(all)
		mine := r
		mine.Records = all[2 : 2+len(r.Records)]
		want := shown(k.q.do(r, 0))
		told := k.b.Do(mine, 0)
		if shown(told) != want {
			t.Fatalf("P21.7: case %d: %s, want %s", i, shown(told), want)
		}
		if !slices.Equal(all, was) {
			t.Fatalf("P21.7: case %d: Do changed the records: %v", i, all)
		}
		spoil(told)
		if !slices.Equal(all, was) {
			t.Fatalf("P21.7: case %d: the records change with what was answered", i)
		}
		later := k.b.Do(fetch("a", 0, 0, most), 0)
		before := shown(later)
		fill(all, api.Record{HasKey: true, Key: "spoilt", Time: 98})
		if shown(later) != before {
			t.Fatalf("P21.7: case %d: what was answered changes with the records", i)
		}
		k.again("P21.7")
	}
}

// TestAnswered: what was answered is new memory: written over, it changes nothing that is told later, nor what was told before, nor another list of it.
func TestAnswered(t *testing.T) {
	k := stock(t, 900, 100)
	for _, r := range k.q.looks() {
		one, two := k.b.Do(r, 0), k.b.Do(r, 0)
		want := shown(k.q.do(r, 0))
		spoil(one)
		if shown(two) != want {
			t.Fatalf("P21.7: Do(%s) changes with what was answered before:\n%s\nwant\n%s", short(r), shown(two), want)
		}
		if told := shown(k.b.Do(r, 0)); told != want {
			t.Fatalf("P21.7: Do(%s) behind an answer that was written over:\n%s\nwant\n%s", short(r), told, want)
		}
	}
	told := k.asks("P21.7", 0, fetch("a", 0, 0, most))
	for i := range told.Batches {
		want := shown(api.Response{Batches: told.Batches[i+1:]})
		fill(told.Batches[i].Records, api.Record{Key: "spoilt"})
		if got := shown(api.Response{Batches: told.Batches[i+1:]}); got != want {
			t.Fatalf("P21.7: the records of the batch %d share memory with those behind", i)
		}
	}
	k.again("P21.7")
	// What was told stays, whatever is done afterwards.
	names, all := k.asks("P21.7", 0, topics()), k.asks("P21.7", 0, fetch("c", 0, 0, most))
	was := shown(names) + shown(all)
	k.asks("P21.7", 0, add("c", 0, 7, 6, rec("k0", "new", 1)), create("b", 3, keeps()), remove("a"))
	for k.compacts("P21.3", "c", 0, 1000) {
	}
	k.goesOn("P21.7")
	if now := shown(names) + shown(all); now != was {
		t.Errorf("P21.7: what was told is\n%s\nwas\n%s", now, was)
	}
}
