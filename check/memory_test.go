package check_test

import (
	"bytes"
	"fmt"
	"slices"
	"testing"
	"unsafe"

	"bollard/api"
)

// mark is what stands in spare room.
func mark() api.Record { return api.Record{HasKey: true, Key: "mark", Time: 77, Off: 50} }

// guarded is a list with others ahead of and behind it, in one piece of memory.
func guarded[T any](l []T, mark T) (all, mine []T) {
	all = slices.Concat([]T{mark, mark}, l, []T{mark, mark, mark})
	return all, all[2 : 2+len(l)]
}

// fill writes v over a list.
func fill[T any](l []T, v T) {
	for i := range l {
		l[i] = v
	}
}

// laid is a fetch all of whose lists stand within greater ones.
func laid(f fetch) (g fetch, batches []api.Batch, records [][]api.Record) {
	g = f
	batches, g.batches = guarded(f.batches, api.Batch{Base: 77, Span: 77, Producer: 77, Records: []api.Record{mark()}})
	for i, b := range f.batches {
		all, mine := guarded(b.Records, mark())
		g.batches[i].Records = mine
		records = append(records, all)
	}
	return g, batches, records
}

// TestHandedIn: batches, records, and their spare room stay as they are, whatever is told; overwritten, they change nothing that is told later.
func TestHandedIn(t *testing.T) {
	rows := refusals()
	rows["0, new ones"] = told(5, 30, news()...)
	rows["0, old ones"] = told(3, 10, bat(8, 2, 7, 1, rec("k", "8", 8), rec("k", "9", 8)))
	rows["0, thousands"] = told(3, 400, row(100, 4)[1:]...)
	rows["0, no batches"] = told(3, 10)
	for what, f := range rows {
		k := stocked(t)
		if what == "0, thousands" {
			k = made(t)
		}
		g, batches, records := laid(f)
		was := fmt.Sprint(batches, records)
		if got, want := k.l.Saw(g.topic, g.part, g.start, g.next, g.from, g.batches), k.q.saw(f); got != want {
			t.Fatalf("P24.1: %s: Saw(%s) = %d, want %d", what, short(f), got, want)
		}
		if now := fmt.Sprint(batches, records); now != was {
			t.Fatalf("P24.1: %s: Saw changed what it was handed: %.1000s, was %.1000s", what, now, was)
		}
		for _, all := range records {
			fill(all, mark())
		}
		fill(batches, api.Batch{Base: 99, Span: 9, Producer: 9, Seq: 99})
		k.sees("P24.1", f)
		for _, one := range refusals() {
			k.sees("P24.1", one)
		}
		k.sees("P24.1", told(5, 400, bat(12, 1, 0, 0, mark())))
		k.sees("P24.1", told(5, 400, bat(99, 9, 9, 99, mark())))
		k.sees("P24.1", told(5, 400, bat(15, 1, 9, 0)))
	}
}

// TestOneBuffer: a reader that lays each fetch into the same memory.
func TestOneBuffer(t *testing.T) {
	k := made(t)
	batches, records := make([]api.Batch, 1), make([]api.Record, 3)
	all := row(100, 4)
	for round := range 3 {
		for i, b := range all {
			copy(records, b.Records)
			batches[0] = b
			batches[0].Records = records
			if round == 2 {
				records[i%3].Time++
			}
			want := 3 * (round / 2)
			if got := k.l.Saw("a", 0, 0, 300, 0, batches); got != want {
				t.Fatalf("P24.1: round %d: Saw(batch %d) = %d, want %d", round, i, got, want)
			}
		}
	}
}

// over is a text that lies in a piece of memory which can be written over.
func over(text string) (string, []byte) {
	b := []byte(text + " and more behind it")
	return unsafe.String(&b[0], len(text)), b
}

// TestTextsAreNotKept: a topic, a key and a value are not kept either: they may be pieces of memory that is used for something else later.
func TestTextsAreNotKept(t *testing.T) {
	k := made(t)
	for i := range 50 {
		text := func(what string) string { return fmt.Sprint(what, " ", i) }
		topic, a := over(text("topic"))
		key, b := over(text("key"))
		val, c := over(text("val"))
		if got := k.l.Saw(topic, 0, 0, 9, 0, []api.Batch{bat(0, 2, 7, i, rec(key, val, 1), bare(val, 2))}); got != 0 {
			t.Fatalf("P24.1: Saw(%s) = %d, want 0", text("topic"), got)
		}
		k.q.saw(told(0, 9, bat(0, 2, 7, i, rec(text("key"), text("val"), 1), bare(text("val"), 2))).where(text("topic"), 0))
		for _, b := range [][]byte{a, b, c} {
			copy(b, bytes.Repeat([]byte{'x'}, len(b)))
		}
	}
	for i := range 50 {
		text := func(what string) string { return fmt.Sprint(what, " ", i) }
		k.saw("P24.1", 1, told(0, 8).where(text("topic"), 0))
		k.saw("P24.1", 3, told(0, 9, bat(0, 2, 7, i, rec(text("key"), text("value"), 1))).where(text("topic"), 0))
		k.saw("P24.1", 4, told(0, 9, bat(1, 1, 7, i)).where(text("topic"), 0))
		k.saw("P24.1", 0, told(0, 9, bat(0, 2, 7, i, rec(text("key"), text("val"), 1), bare(text("val"), 2))).where(text("topic"), 0))
	}
}
