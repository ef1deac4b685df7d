package conns_test

import (
	"fmt"
	"maps"
	"slices"
	"testing"

	"bollard/api"
)

// topic is a name, mostly of one that may be there.
func (x *dice) topic() string {
	return pick(x, "a", "a", "a", "b", "b", "c", "c", "d", "q", "", "x/y", long(51))
}

// part is a number, mostly of a part that may be there.
func (x *dice) part() int {
	return pick(x, 0, 0, 0, 0, 1, 1, 2, -1, most, least)
}

// records are a few.
func (x *dice) records() []api.Record {
	var l []api.Record
	for range pick(x, 1, 1, 1, 2, 2, 3, 5, 0) {
		r := rec(fmt.Sprint("k", x.below(6)), long(x.below(300)), x.below(60))
		switch x.below(12) {
		case 0, 1:
			r.HasVal, r.Val = false, ""
		case 2:
			r.HasKey, r.Key = false, ""
		case 3:
			r.Val = long(pick(x, 2000, 2001, 900))
		}
		l = append(l, r)
	}
	return l
}

// request is one of all Kinds, of which more are right than wrong.
func (x *dice) request(q *plain) api.Request {
	topic, part, group := x.topic(), x.part(), pick(x, "g", "h", "i", "", "j")
	var r api.Request
	switch n := x.below(40); {
	case n < 4:
		r = create(topic, pick(x, 1, 2, 3, 0, 9))
		r.Set.Compact = x.below(2) == 0
		r.Set.Segment = pick(x, 512, 600, 8192, 511)
	case n < 5:
		r = remove(topic)
	case n < 6:
		r = topics()
	case n < 24:
		r = x.append(q, topic, part)
	case n < 28:
		r = fetch(topic, part, x.offset(q, topic, part), pick(x, 1, 0, 300, 1000, 5000, most))
	case n < 30:
		r = list(topic, part, x.below(65))
	case n < 35:
		r = commit(group, topic, part, pick(x, 0, 1, 5, end, -1))
	default:
		r = offset(group, topic, part)
	}
	r.ID = pick(x, 0, 1<<32-1, x.below(1000))
	return r
}

// append is a batch of nobody's, or of a producer's: new, next, again, or one that leaves something out.
func (x *dice) append(q *plain, topic string, part int) api.Request {
	p := pick(x, 0, 0, 1, 2, 3, 4, -1)
	seq := 0
	if _, l := q.find(topic, part); l != nil && p > 0 {
		was, known := l.known[p]
		if seq = was.seq + pick(x, 1, 1, 1, 1, 0, 0, 2, -1); !known {
			seq = pick(x, 0, 0, 0, 1)
		}
	}
	return add(topic, part, p, seq, x.records()...)
}

// offset is one around those that there are.
func (x *dice) offset(q *plain, topic string, part int) int {
	_, l := q.find(topic, part)
	if l == nil {
		return x.below(5)
	}
	return x.below(l.next()+3) - 1
}

// frame is a request's, or, now and then, one that is no request's, or a length that may not be.
func (x *dice) frame(q *plain) []byte {
	b := laidRequest(x.request(q))
	switch x.below(60) {
	case 0:
		b = b[:x.below(len(b))]
	case 1:
		b = append(b, byte(x.below(256)))
	case 2, 3, 4:
		b[x.below(len(b))] = byte(x.below(256))
	case 5:
		b = make([]byte, x.below(30))
	case 6:
		return length(pick(x, wrongLengths()...))
	}
	return framed(b...)
}

// TestPlays: several connections that are opened and fed by turns, each in drawn pieces of bytes of its own.
func TestPlays(t *testing.T) {
	for seed := range 50 {
		x := dice(seed)
		k := made(t, 4000, 1200)
		rows := map[int][]byte{} // what each connection has to send yet
		k.opens("P22.1")
		k.asks("P22.1", 0, 0, create("a", 2), create("b", 1), thins("c"))
		for step := range 700 {
			if x.below(40) == 0 || len(k.m.wait) == 0 {
				k.opens("P22.1")
			}
			open := slices.Sorted(maps.Keys(k.m.wait))
			n := pick(&x, open...)
			for len(rows[n]) == 0 || x.below(3) == 0 {
				rows[n] = append(rows[n], x.frame(k.m.q)...)
			}
			size := min(pick(&x, x.below(10), x.below(100), x.below(3000)), len(rows[n]))
			k.feeds("P22.3", n, x.below(70), rows[n][:size])
			rows[n] = rows[n][size:]
			if x.below(30) == 0 { // one that is not open, too
				k.feeds("P22.1", x.below(k.m.next+2)-1, 0, framed(9))
			}
			if step%100 == 99 {
				k.is("P22.3")
			}
		}
		k.is("P22.3")
		k.fork(0).goesOn("P22.3")
	}
}
