package part_test

import (
	"fmt"
	"slices"
	"testing"

	"bollard/api"
	"bollard/batch"
)

// plain is a partition as lists of batches: chapter 15, one word after the other.
type plain struct {
	t    *testing.T
	set  api.Settings
	segs []seg
}

// seg is a segment.
type seg struct {
	base int
	l    []api.Batch
}

func newPlain(t *testing.T, s api.Settings) *plain {
	return &plain{t, s, []seg{{base: 0}}}
}

// clone is another one with the same in it.
func (q *plain) clone() *plain {
	c := &plain{t: q.t, set: q.set}
	for _, s := range q.segs {
		c.segs = append(c.segs, seg{s.base, copied(s.l)})
	}
	return c
}

func (s seg) next() int {
	if len(s.l) == 0 {
		return s.base
	}
	b := s.l[len(s.l)-1]
	return b.Base + b.Span
}

// last is the greatest time; -1 without any.
func (s seg) last() int {
	last := -1
	for _, b := range s.l {
		for _, r := range b.Records {
			last = max(last, r.Time)
		}
	}
	return last
}

func (q *plain) size(l ...api.Batch) int {
	q.t.Helper()
	return len(laid(q.t, l...))
}

func (q *plain) start() int { return q.segs[0].base }

func (q *plain) next() int { return q.segs[len(q.segs)-1].next() }

func (q *plain) bases() (l []int) {
	for _, s := range q.segs {
		l = append(l, s.base)
	}
	return l
}

// all are all batches.
func (q *plain) all() (l []api.Batch) {
	for _, s := range q.segs {
		l = append(l, s.l...)
	}
	return l
}

// files are the names of the directory, each with its bytes.
func (q *plain) files() map[string]string {
	q.t.Helper()
	m := map[string]string{}
	for _, s := range q.segs {
		m[fmt.Sprintf("%020d", s.base)] = fmt.Sprintf("%x", laid(q.t, s.l...))
	}
	return m
}

func (q *plain) append(producer, seq int, l []api.Record) (int, api.Errno) {
	q.t.Helper()
	b, e := batch.Fresh(q.next(), producer, seq, l)
	if e != ok {
		return 0, e
	}
	active := &q.segs[len(q.segs)-1]
	if len(active.l) > 0 && q.size(active.l...)+q.size(b) > q.set.Segment {
		q.segs = append(q.segs, seg{base: b.Base})
		active = &q.segs[len(q.segs)-1]
	}
	active.l = append(active.l, b)
	return b.Base, ok
}

func (q *plain) read(offset, max int) ([]api.Batch, api.Errno) {
	q.t.Helper()
	if max < 1 {
		return nil, arg
	}
	if offset < q.start() || offset > q.next() {
		return nil, badSpot
	}
	l := q.all()
	for i, b := range l {
		if b.Base+b.Span > offset {
			end := i + 1
			for end < len(l) && q.size(l[i:end+1]...) <= max {
				end++
			}
			return l[i:end], ok
		}
	}
	return nil, ok
}

func (q *plain) at(time int) int {
	for _, b := range q.all() {
		for _, r := range b.Records {
			if r.Time >= time {
				return b.Base + r.Off
			}
		}
	}
	return q.next()
}

func (q *plain) retain(now int) bool {
	q.t.Helper()
	sealed := 0
	for _, s := range q.segs[:len(q.segs)-1] {
		sealed += q.size(s.l...)
	}
	first := q.segs[0]
	much := q.set.Bytes != -1 && sealed > q.set.Bytes
	old := q.set.Age != -1 && (len(first.l) == 0 || now > first.last()+q.set.Age)
	if len(q.segs) == 1 || !much && !old {
		return false
	}
	q.segs = slices.Clone(q.segs[1:])
	return true
}

// spot is where a record stands: which segment, which batch, which record of it.
type spot struct{ s, b, r int }

// spots are those of all records, in order.
func (q *plain) spots() (l []spot) {
	for s := range q.segs {
		for b := range q.segs[s].l {
			for r := range q.segs[s].l[b].Records {
				l = append(l, spot{s, b, r})
			}
		}
	}
	return l
}

func (q *plain) record(x spot) api.Record { return q.segs[x.s].l[x.b].Records[x.r] }

// stays is whether the i-th of all records does.
func (q *plain) stays(l []spot, i, now int) bool {
	r := q.record(l[i])
	if !r.HasKey {
		return true
	}
	for _, x := range l[i+1:] {
		if behind := q.record(x); behind.HasKey && behind.Key == r.Key {
			return false
		}
	}
	return r.HasVal || r.Time+q.set.Delay >= now
}

func (q *plain) compact(now int) bool {
	l := q.spots()
	at := -1
	stay := map[spot]bool{}
	for i, x := range l {
		stay[x] = q.stays(l, i, now)
		if !stay[x] && at < 0 && x.s < len(q.segs)-1 {
			at = x.s
		}
	}
	if at < 0 {
		return false
	}
	var kept []api.Batch
	for b, old := range q.segs[at].l {
		fresh := old
		fresh.Records = nil
		for r, record := range old.Records {
			if stay[spot{at, b, r}] {
				fresh.Records = append(fresh.Records, record)
			}
		}
		if len(fresh.Records) > 0 {
			kept = append(kept, fresh)
		}
	}
	q.segs[at].l = kept
	return true
}
