package check_test

import (
	"fmt"
	"math"
	"math/big"
	"slices"
	"testing"

	"bollard/api"
	"bollard/check"
)

// The edges of int.
const (
	least = math.MinInt
	most  = math.MaxInt
)

// dice are numbers without a pattern, the same ones at each run.
type dice uint64

func (x *dice) below(n int) int {
	*x = *x*6364136223846793005 + 1442695040888963407
	return int(uint64(*x) >> 33 % uint64(n))
}

// pick is one of a list.
func pick[T any](x *dice, l ...T) T {
	return l[x.below(len(l))]
}

// fetch is what Saw is handed.
type fetch struct {
	topic   string
	part    int
	start   int
	next    int
	from    int
	batches []api.Batch
}

// told is a fetch of the part 0 of the topic a, from Start on.
func told(start, next int, l ...api.Batch) fetch {
	return fetch{"a", 0, start, next, start, l}
}

// toldFrom is one from another offset on.
func toldFrom(from, start, next int, l ...api.Batch) fetch {
	return fetch{"a", 0, start, next, from, l}
}

// bat is a batch, whose records' Offs are 0, 1, ..
func bat(base, span, producer, seq int, l ...api.Record) api.Batch {
	l = slices.Clone(l)
	for i := range l {
		l[i].Off = i
	}
	return api.Batch{Base: base, Span: span, Producer: producer, Seq: seq, Records: l}
}

// at is a batch of nobody's with one record of that value.
func at(base, span int, val string) api.Batch {
	return bat(base, span, 0, 0, rec("k", val, 5))
}

// empty is a batch of nobody's without records.
func empty(base, span int) api.Batch {
	return api.Batch{Base: base, Span: span}
}

// Records.
func rec(key, val string, time int) api.Record {
	return api.Record{HasKey: true, Key: key, HasVal: true, Val: val, Time: time}
}

func bare(val string, time int) api.Record { return api.Record{HasVal: true, Val: val, Time: time} }

// placed is a record whose Off is set.
func placed(r api.Record, off int) api.Record {
	r.Off = off
	return r
}

// plain is a Log as the chapter says it: lists of all that was seen, looked through from the beginning each time, and sums without an end.
type plain struct {
	fetches []fetch
	records []seenRecord
	turns   []seenTurn
}

type seenRecord struct {
	topic  string
	part   int
	offset string
	r      api.Record
}

type seenTurn struct {
	topic    string
	part     int
	producer int
	seq      int
	base     int
}

// sum is a sum that does not wrap round.
func sum(a, b int) *big.Int {
	return new(big.Int).Add(big.NewInt(int64(a)), big.NewInt(int64(b)))
}

// isAbove is whether a sum is above n.
func isAbove(s *big.Int, n int) bool {
	return s.Cmp(big.NewInt(int64(n))) > 0
}

// fallen is the first of what may be so.
func (q *plain) fallen(f fetch) bool {
	for _, was := range q.fetches {
		if was.topic == f.topic && was.part == f.part && (f.start < was.start || f.next < was.next) {
			return true
		}
	}
	return f.start > f.next
}

// misplaced is the second.
func (f fetch) misplaced() bool {
	for i, b := range f.batches {
		end := sum(b.Base, b.Span)
		if b.Base < f.from && !isAbove(end, f.from) || isAbove(end, f.next) || !isAbove(end, f.start) {
			return true
		}
		if i == 0 {
			continue
		}
		ahead := f.batches[i-1]
		if b.Base <= ahead.Base || isAbove(sum(ahead.Base, ahead.Span), b.Base) {
			return true
		}
	}
	return false
}

// recordsOf are a fetch's, with their offsets.
func recordsOf(f fetch) (l []seenRecord) {
	for _, b := range f.batches {
		for _, r := range b.Records {
			l = append(l, seenRecord{f.topic, f.part, sum(b.Base, r.Off).String(), r})
		}
	}
	return l
}

// turnsOf are the batches of a fetch that are some producer's.
func turnsOf(f fetch) (l []seenTurn) {
	for _, b := range f.batches {
		if b.Producer > 0 {
			l = append(l, seenTurn{f.topic, f.part, b.Producer, b.Seq, b.Base})
		}
	}
	return l
}

// unlike is whether two records at one place can't both be there.
func (a seenRecord) unlike(b seenRecord) bool {
	if a.topic != b.topic || a.part != b.part || a.offset != b.offset {
		return false
	}
	return a.r.Key != b.r.Key || a.r.HasKey != b.r.HasKey || a.r.Val != b.r.Val || a.r.HasVal != b.r.HasVal || a.r.Time != b.r.Time
}

// elsewhere is whether two batches of one number can't both be there.
func (a seenTurn) elsewhere(b seenTurn) bool {
	return a.topic == b.topic && a.part == b.part && a.producer == b.producer && a.seq == b.seq && a.base != b.base
}

// clash is whether one of fresh clashes with one that is known, or with one of fresh that is ahead of it.
func clash[T any](known, fresh []T, clashes func(a, b T) bool) bool {
	for i, x := range fresh {
		one := func(was T) bool { return clashes(was, x) }
		if slices.ContainsFunc(known, one) || slices.ContainsFunc(fresh[:i], one) {
			return true
		}
	}
	return false
}

// saw is Saw.
func (q *plain) saw(f fetch) int {
	records, turns := recordsOf(f), turnsOf(f)
	switch {
	case q.fallen(f):
		return 1
	case f.misplaced():
		return 2
	case clash(q.records, records, seenRecord.unlike):
		return 3
	case clash(q.turns, turns, seenTurn.elsewhere):
		return 4
	}
	q.fetches = append(q.fetches, f)
	q.records = append(q.records, records...)
	q.turns = append(q.turns, turns...)
	return 0
}

// kit is a Log, and what it is held against.
type kit struct {
	t *testing.T
	l *check.Log
	q *plain
}

// made is a new one.
func made(t *testing.T) *kit {
	t.Helper()
	l := check.New()
	if l == nil {
		t.Fatalf("P24.1: New() is nil")
	}
	return &kit{t, l, &plain{}}
}

// known is one that has seen fetches, which must be right.
func known(t *testing.T, l ...fetch) *kit {
	t.Helper()
	k := made(t)
	for _, f := range l {
		k.saw("P24.1", 0, f)
	}
	return k
}

// sees hands a fetch to the Log, holds what it tells against the lists, and tells it.
func (k *kit) sees(promise string, f fetch) int {
	k.t.Helper()
	got, want := k.l.Saw(f.topic, f.part, f.start, f.next, f.from, f.batches), k.q.saw(f)
	if got != want {
		k.t.Fatalf("%s: Saw(%s) = %d, want %d", promise, short(f), got, want)
	}
	return got
}

// saw is sees, where it is known what must be told.
func (k *kit) saw(promise string, want int, f fetch) {
	k.t.Helper()
	if got := k.sees(promise, f); got != want {
		k.t.Fatalf("%s: Saw(%s) = %d, want %d", promise, short(f), got, want)
	}
}

// short is a fetch, as far as a failure tells it.
func short(f fetch) string {
	return fmt.Sprintf("%.40q %d, start %d, next %d, from %d, %.700s", f.topic, f.part, f.start, f.next, f.from, fmt.Sprint(f.batches))
}
