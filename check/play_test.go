package check_test

import (
	"fmt"
	"slices"
	"testing"

	"bollard/api"
	"bollard/check"
)

// truth is a partition as it might be: what fetches tell of it is right, until something is changed in it.
type truth struct {
	topic   string
	part    int
	start   int
	next    int
	batches []api.Batch
}

// grow appends a drawn batch, and, now and then, lets Start rise.
func (x *dice) grow(l *truth) {
	var records []api.Record
	for range x.below(4) {
		records = append(records, pick(x, rec("k", fmt.Sprint(x.below(3)), x.below(3)), bare("v", x.below(3)), rec("", "", 0), api.Record{HasKey: true, Key: "k", Time: x.below(3)}))
	}
	seq := len(l.batches)
	l.batches = append(l.batches, bat(l.next, len(records)+pick(x, 0, 1, 1, 2)+1, x.below(4)-1, seq, records...))
	l.next += l.batches[seq].Span
	if x.below(4) == 0 {
		l.start += x.below(l.next - l.start + 1)
	}
}

// fetch is what a fetch of a drawn offset tells.
func (x *dice) fetch(l *truth) fetch {
	f := fetch{l.topic, l.part, l.start, l.next, l.start + x.below(l.next-l.start+1), nil}
	for _, b := range l.batches {
		if b.Base+b.Span > f.from && b.Base+b.Span > f.start && x.below(5) > 0 {
			b.Records = slices.Clone(b.Records)
			if len(b.Records) > 0 && x.below(4) == 0 {
				i := x.below(len(b.Records))
				b.Records = slices.Delete(b.Records, i, i+1)
			}
			f.batches = append(f.batches, b)
		}
	}
	f.batches = f.batches[:min(len(f.batches), x.below(6))]
	return f
}

// near is a number that is a bit off, or at an edge.
func (x *dice) near(n int) int {
	return pick(x, n-1, n+1, n-2, n+2, n+5, x.below(20), 0, -n, most, least)
}

// spoil changes a thing of a fetch, which may make it wrong.
func (x *dice) spoil(f *fetch) {
	switch n := x.below(20); {
	case n < 3:
		f.start = x.near(f.start)
	case n < 6:
		f.next = x.near(f.next)
	case n < 8:
		f.from = x.near(f.from)
	case n < 9:
		f.topic, f.part = pick(x, "a", "b", "", "aa"), x.below(3)
	case len(f.batches) > 0:
		x.spoilBatch(f)
	}
}

// spoilBatch changes one of its batches.
func (x *dice) spoilBatch(f *fetch) {
	i := x.below(len(f.batches))
	b := &f.batches[i]
	switch x.below(12) {
	case 0:
		b.Base = x.near(b.Base)
	case 1:
		b.Span = x.near(b.Span)
	case 2:
		b.Producer = x.below(4) - 1
	case 3:
		b.Seq = x.near(b.Seq)
	case 4:
		f.batches = slices.Insert(f.batches, x.below(len(f.batches)+1), *b)
	case 5, 6:
		f.batches = append(f.batches, bat(f.next, 1, b.Producer, b.Seq, b.Records...))
		f.next++
	default:
		for j := range b.Records {
			x.spoilRecord(&b.Records[j])
		}
	}
}

// spoilRecord changes a field of a record, or none.
func (x *dice) spoilRecord(r *api.Record) {
	switch x.below(10) {
	case 0:
		r.HasKey = !r.HasKey
	case 1:
		r.HasVal = !r.HasVal
	case 2:
		r.Key += "x"
	case 3:
		r.Val += "x"
	case 4:
		r.Time = x.near(r.Time)
	case 5:
		r.Off = x.near(r.Off)
	}
}

// TestPlays: rows of fetches of several topics and parts by turns, of several Logs by turns, held against lists of all that was seen.
func TestPlays(t *testing.T) {
	var count [5]int
	for seed := range 60 {
		x := dice(seed)
		logs := []*kit{made(t), made(t), {t, &check.Log{}, &plain{}}}
		var l []*truth
		for _, topic := range []string{"a", "b", "aa"} {
			for part := range 2 {
				l = append(l, &truth{topic: topic, part: part})
			}
		}
		for range 400 {
			one := pick(&x, l...)
			if x.below(3) == 0 {
				x.grow(one)
			}
			f := x.fetch(one)
			for range pick(&x, 0, 0, 1, 1, 2, 3) {
				x.spoil(&f)
			}
			count[pick(&x, logs...).sees("P24.1", f)]++
		}
	}
	for told, n := range count {
		if n < 300 {
			t.Errorf("P24.1: the plays tell %d only %d times", told, n)
		}
	}
}

// TestGreat: thousands of records in one Log, each of which is known.
func TestGreat(t *testing.T) {
	l := check.New()
	saw := func(want, part, i int, b ...api.Batch) {
		t.Helper()
		if got := l.Saw("a", part, 0, 100*(i+1), 0, b); got != want {
			t.Fatalf("P24.1: of part %d, batch %d, Saw = %d, want %d", part, i, got, want)
		}
	}
	const parts, batches = 3, 100
	batch := func(part, i int) api.Batch {
		var records []api.Record
		for n := range 100 {
			records = append(records, rec(fmt.Sprint("key", n%7), fmt.Sprint(part, i, n), n))
		}
		return bat(100*i, 100, 1+i%60, i/60, records...)
	}
	for i := range batches {
		for part := range parts {
			saw(0, part, i, batch(part, i))
		}
	}
	for i := range batches {
		for part := range parts {
			b := batch(part, i)
			last := batches - 1
			saw(0, part, last, b)
			saw(1, part, last-1, b)
			saw(2, part, last, b, b)
			saw(4, part, last, bat(b.Base+1, 1, b.Producer, b.Seq))
			b.Records[(7*i)%100].Time++
			saw(3, part, last, b)
		}
	}
	for n := range batches * 100 {
		i := n / 100
		b := batch(0, i)
		saw(0, 0, batches-1, bat(n, 1, 0, 0, b.Records[n%100]))
		saw(3, 0, batches-1, bat(n, 1, 0, 0, rec("key", "another", n%100)))
	}
}
