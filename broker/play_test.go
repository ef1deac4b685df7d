package broker_test

import (
	"fmt"
	"maps"
	"slices"
	"testing"

	"bollard/api"
)

// pick is one of a list.
func pick[T any](x *dice, l ...T) T {
	return l[x.below(len(l))]
}

// topic is a name, mostly of one that may be there.
func (x *dice) topic() string {
	return pick(x, "a", "a", "a", "b", "b", "c", "c", "d", "q", "", "x/y")
}

// part is a number, mostly of a part that may be there.
func (x *dice) part() int {
	return pick(x, 0, 0, 0, 0, 1, 1, 2, -1, most)
}

// set are some that may be, or, now and then, some that may not.
func (x *dice) set() api.Settings {
	s := api.Settings{
		Segment: pick(x, 512, 600, 1000, 8192),
		Bytes:   pick(x, -1, 0, 500, 2000),
		Age:     pick(x, -1, 0, 10, 30),
		Compact: x.below(2) == 0,
		Delay:   pick(x, 0, 5, 100),
	}
	if x.below(15) == 0 {
		s.Segment = 511
	}
	return s
}

// records are a few.
func (x *dice) records() []api.Record {
	var l []api.Record
	for range pick(x, 1, 1, 1, 2, 2, 3, 5, 0) {
		r := rec(fmt.Sprint("k", x.below(6)), long(x.below(300)), x.below(60))
		switch x.below(12) {
		case 0, 1:
			r.HasVal, r.Val = false, ""
		case 2:
			r.HasKey, r.Key = false, ""
		case 3:
			r.Val = long(pick(x, 2000, 2001, 900))
		}
		l = append(l, r)
	}
	return l
}

// request is one of all Kinds, of which more are right than wrong.
func (x *dice) request(q *plain) api.Request {
	topic, part := x.topic(), x.part()
	var r api.Request
	switch n := x.below(40); {
	case n < 4:
		r = create(topic, pick(x, 1, 2, 3, 0, 9), x.set())
	case n < 5:
		r = remove(topic)
	case n < 6:
		r = topics()
	case n < 24:
		r = x.append(q, topic, part)
	case n < 28:
		r = fetch(topic, part, x.offset(q, topic, part), pick(x, 1, 0, 300, 1000, 5000, most))
	case n < 30:
		r = list(topic, part, x.below(65))
	case n < 35:
		r = commit(pick(x, "g", "h", "i", "", "j"), topic, part, pick(x, 0, 1, 5, end, -1))
	case n < 39:
		r = offset(pick(x, "g", "h", "i", "", "j"), topic, part)
	default:
		r = api.Request{Kind: pick(x, 0, -1, 9, 99)}
	}
	r.ID = x.below(1000)
	return r
}

// append is a batch of nobody's, or of a producer's: new, next, again, or one that leaves something out.
func (x *dice) append(q *plain, topic string, part int) api.Request {
	p := pick(x, 0, 0, 1, 2, 3, 4, -1)
	seq := 0
	if _, l := q.find(topic, part); l != nil && p > 0 {
		was, known := l.known[p]
		if seq = was.seq + pick(x, 1, 1, 1, 1, 0, 0, 2, -1); !known {
			seq = pick(x, 0, 0, 0, 1)
		}
	}
	return add(topic, part, p, seq, x.records()...)
}

// offset is one around those that there are.
func (x *dice) offset(q *plain, topic string, part int) int {
	_, l := q.find(topic, part)
	if l == nil {
		return x.below(5)
	}
	return l.start() - 1 + x.below(l.next()-l.start()+3)
}

// step is one call, held against the plain broker.
func (k *kit) step(x *dice) {
	k.t.Helper()
	now := x.below(70)
	switch x.below(20) {
	case 0:
		k.retains("P21.3", x.topic(), x.part(), now)
	case 1, 2:
		k.compacts("P21.3", x.topic(), x.part(), now)
	case 3:
		k.tidies("P21.3", now)
	case 4:
		k.sweeps("P21.3")
	default:
		k.asks("P21.2", now, x.request(k.q))
	}
}

// TestPlays: rows of all calls, with the broker opened and the file system mounted again in between.
func TestPlays(t *testing.T) {
	for seed := range 60 {
		x := dice(1000 + seed)
		k := made(t, 4000, 1200)
		s := newSeen()
		k.asks("P21.2", 0, create("a", 2, x.set()), create("b", 1, x.set()), create("c", 1, thins()))
		for range 250 {
			switch x.below(40) {
			case 0:
				k.opens()
			case 1:
				k.remount()
			case 2:
				s.looks(k)
			default:
				k.step(&x)
			}
		}
		s.looks(k)
		k.again("P21.6")
	}
}

// seen is what fetches told: P21.6 holds later ones against it.
type seen struct {
	start, next map[string]int
	records     map[string]api.Record
	bases       map[string]int
}

func newSeen() *seen {
	return &seen{map[string]int{}, map[string]int{}, map[string]api.Record{}, map[string]int{}}
}

// looks fetches all. A topic's life is told by its ID.
func (s *seen) looks(k *kit) {
	k.t.Helper()
	for _, name := range slices.Sorted(maps.Keys(k.q.topics)) {
		x := k.q.topics[name]
		for n := range x.logs {
			at := folder(x.id, n)
			l := k.b.Do(list(name, n, 0), 0)
			if l.Start < s.start[at] || l.Next < s.next[at] || l.Start > l.Next {
				k.t.Fatalf("P21.6: Start and Next of %s are %d and %d, were %d and %d", at, l.Start, l.Next, s.start[at], s.next[at])
			}
			s.start[at], s.next[at] = l.Start, l.Next
			s.fetched(k, at, k.b.Do(fetch(name, n, l.Start, most), 0).Batches)
		}
	}
}

// fetched is one fetch of all: an offset tells the same record as ever, and a producer's number stands at one place.
func (s *seen) fetched(k *kit, at string, l []api.Batch) {
	k.t.Helper()
	numbers := map[string]int{}
	for _, b := range l {
		for _, r := range b.Records {
			offset := fmt.Sprint(at, " ", b.Base+r.Off)
			if was, there := s.records[offset]; there && was != r {
				k.t.Fatalf("P21.6: at %s there is %v, was %v", offset, r, was)
			}
			s.records[offset] = r
		}
		if b.Producer == 0 {
			continue
		}
		number := fmt.Sprint(at, " ", b.Producer, " ", b.Seq)
		if was, there := s.bases[number]; there && was != b.Base {
			k.t.Fatalf("P21.6: the batch %s is at %d, was at %d", number, b.Base, was)
		}
		if numbers[number]++; numbers[number] > 1 {
			k.t.Fatalf("P21.6: the batch %s is in the log twice", number)
		}
		s.bases[number] = b.Base
	}
}

// TestCompactKeeps: whatever is compacted, each key's last record tells the same, but for tombstones, which may go.
func TestCompactKeeps(t *testing.T) {
	for seed := range 20 {
		x := dice(seed)
		k := made(t, 4000, 1000)
		k.asks("P21.2", 0, create("c", 1, thins()))
		for range 80 {
			l := x.records()
			for i := range l {
				if !l[i].HasKey {
					l[i].HasKey, l[i].Key = true, "k9"
				}
			}
			k.asks("P21.2", 0, add("c", 0, 0, 0, l...))
			if x.below(4) > 0 {
				continue
			}
			was := k.q.topics["c"].logs[0].lasts()
			k.compacts("P21.3", "c", 0, x.below(80))
			told := k.b.Do(fetch("c", 0, 0, most), 0)
			now := (&plainLog{row: []plainSegment{{batches: told.Batches}}}).lasts()
			for key, val := range was {
				if got, there := now[key]; got != val && (there || val != "none") {
					t.Fatalf("P21.6: seed %d: the last value of %q is %q, was %q", seed, key, got, val)
				}
			}
		}
		k.again("P21.6")
	}
}
