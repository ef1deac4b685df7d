package world_test

import (
	"fmt"
	"maps"
	"slices"
	"testing"

	"bollard/api"
)

// topic is a name, mostly of one that may be there.
func (x *dice) topic() string {
	return pick(x, "a", "a", "a", "b", "b", "c", "c", "s", "s", "d", "q", "", "x/y", long(51))
}

// part is a number, mostly of a part that may be there.
func (x *dice) part() int {
	return pick(x, 0, 0, 0, 0, 0, 1, 1, 2, -1, most, least)
}

// records are a few.
func (x *dice) records() []api.Record {
	var l []api.Record
	for range pick(x, 1, 1, 1, 2, 2, 3, 5, 0) {
		r := rec(fmt.Sprint("k", x.below(6)), long(x.below(300)), x.below(60))
		switch x.below(12) {
		case 0, 1:
			r.HasVal, r.Val = false, ""
		case 2:
			r.HasKey, r.Key = false, ""
		case 3:
			r.Val = long(pick(x, 2000, 2001, 900))
		}
		l = append(l, r)
	}
	return l
}

// request is one of all Kinds, of which more are right than wrong.
func (x *dice) request(q *plain) api.Request {
	topic, part, group := x.topic(), x.part(), pick(x, "g", "h", "i", "", "j")
	var r api.Request
	switch n := x.below(40); {
	case n < 4:
		r = create(topic, pick(x, 1, 2, 3, 0, 9), pick(x, keeps(), thins(), sheds(), api.Settings{}))
	case n < 5:
		r = remove(topic)
	case n < 6:
		r = topics()
	case n < 24:
		r = x.append(q, topic, part)
	case n < 28:
		r = fetch(topic, part, x.offset(q, topic, part), pick(x, 1, 0, 300, 1000, 5000, most))
	case n < 30:
		r = list(topic, part, x.below(65))
	case n < 35:
		r = commit(group, topic, part, pick(x, 0, 1, 5, end, -1))
	default:
		r = offset(group, topic, part)
	}
	r.ID = pick(x, 0, 1<<32-1, x.below(1000))
	return r
}

// append is a batch of nobody's, or of a producer's: new, next, again, or one that leaves something out.
func (x *dice) append(q *plain, topic string, part int) api.Request {
	p := pick(x, 0, 0, 1, 2, 3, 4, -1)
	seq := 0
	if _, l := q.find(topic, part); l != nil && p > 0 {
		was, known := l.known[p]
		if seq = was.seq + pick(x, 1, 1, 1, 1, 0, 0, 2, -1); !known {
			seq = pick(x, 0, 0, 0, 1)
		}
	}
	return add(topic, part, p, seq, x.records()...)
}

// offset is one around those that there are.
func (x *dice) offset(q *plain, topic string, part int) int {
	_, l := q.find(topic, part)
	if l == nil {
		return x.below(5)
	}
	return x.below(l.next()+3) - 1
}

// frame is a request's, or, now and then, one that is no request's, or a length that may not be.
func (x *dice) frame(q *plain) []byte {
	b := laidRequest(x.request(q))
	switch x.below(60) {
	case 0:
		b = b[:x.below(len(b))]
	case 1:
		b = append(b, byte(x.below(256)))
	case 2, 3:
		b[x.below(len(b))] = byte(x.below(256))
	case 4:
		return length(pick(x, uint32(maxFrame+1), 9000, 1<<31, 1<<32-1))
	}
	return framed(b...)
}

// crash is drawn picks and cuts.
func (x *dice) crash() (picked, cuts []int) {
	for range x.below(120) {
		picked = append(picked, pick(x, x.below(4), x.below(4), -x.below(4), most, least))
	}
	for range pick(x, 0, 0, 1, 2, 3, x.below(25)) {
		cuts = append(cuts, pick(x, x.below(5), x.below(30), -1, most))
	}
	return picked, cuts
}

// play is a world, and what each of its connections has to send yet.
type play struct {
	*kit
	x    *dice
	rows map[int][]byte
}

func begun(t *testing.T, seed int) *play {
	t.Helper()
	x := dice(seed)
	k := made(t, 4000, 1200)
	k.asks("P23.1", create("a", 2, keeps()), create("b", 1, keeps()), create("c", 1, thins()), create("s", 2, sheds()))
	return &play{k, &x, map[int][]byte{}}
}

// conn is the number of an open one.
func (p *play) conn() int {
	p.t.Helper()
	if len(p.m.wait) == 0 || p.x.below(10) == 0 {
		p.opens("P23.1")
	}
	return pick(p.x, slices.Sorted(maps.Keys(p.m.wait))...)
}

// sends feeds a connection some bytes of those that it has to send.
func (p *play) sends() {
	p.t.Helper()
	n := p.conn()
	for len(p.rows[n]) == 0 || p.x.below(3) == 0 {
		p.rows[n] = append(p.rows[n], p.x.frame(p.m.q)...)
	}
	size := min(pick(p.x, p.x.below(10), p.x.below(100), p.x.below(3000)), len(p.rows[n]))
	p.feeds("P23.1", n, p.rows[n][:size])
	p.rows[n] = p.rows[n][size:]
}

// move is a drawn call, held against all.
func (p *play) move() {
	p.t.Helper()
	x := p.x
	switch n := x.below(100); {
	case n < 40:
		p.asks("P23.1", x.request(p.m.q))
	case n < 75:
		p.sends()
	case n < 90:
		p.steps("P23.2", pick(x, 1, 1, 2, 2, 2, 3, 4, 4, 0, 5, -1), x.topic(), x.part())
	case n < 95:
		p.ticks("P23.1", pick(x, 1, 1, 2, 5, 30, 0, -1))
	case n < 97:
		p.feeds("P23.1", x.below(p.m.next+3)-1, framed(9))
	case n < 99:
		p.conn()
	default:
		picked, cuts := x.crash()
		p.crashes("P23.3", picked, cuts)
		p.rows = map[int][]byte{}
		p.is("P23.5")
	}
}

// TestPlays: all calls by turns, and crashes between two of them.
func TestPlays(t *testing.T) {
	for seed := range 40 {
		t.Run(fmt.Sprint("play ", seed), func(t *testing.T) {
			t.Parallel()
			p := begun(t, seed)
			for step := range 600 {
				p.move()
				if step%100 == 99 {
					p.is("P23.5")
				}
			}
			p.is("P23.5")
			p.crashes("P23.3", nil, nil)
			p.is("P23.5")
			p.goesOn("P23.5")
		})
	}
}

// chance is a drawn call that may be cut off: by Do, by Step, or by Feed in one piece.
func (p *play) chance() (cut bool, row []*plain) {
	p.t.Helper()
	x := p.x
	try := byDo(x.request(p.m.q))
	calls := 1
	switch n := x.below(10); {
	case n < 2:
		try = byStep(1+x.below(4), x.topic(), x.part())
	case n < 6:
		var l []api.Request
		q := p.m.q.clone()
		for range x.below(4) {
			l = append(l, x.request(q))
			q.do(l[len(l)-1], p.m.now)
		}
		try, calls = byFeed(p.conn(), l...), len(l)
	}
	done, row := try(p.kit)
	return done < calls, row
}

// TestRowPower: calls by turns, cut anywhere, again and again: what was answered is there, and the one that was cut off is, or is not.
func TestRowPower(t *testing.T) {
	for seed := range 30 {
		t.Run(fmt.Sprint("row ", seed), func(t *testing.T) {
			t.Parallel()
			p := begun(t, 700+seed)
			for range 12 {
				p.cuts(p.x.below(150))
				cut, row := false, []*plain(nil)
				for calls := 0; !cut; calls++ {
					if calls == 3000 {
						t.Fatalf("P23.2: seed %d: %d calls did without the device", seed, calls)
					}
					p.ticks("P23.1", p.x.below(3))
					cut, row = p.chance()
				}
				p.isOff("P23.2")
				picked, cuts := p.x.crash()
				p.crashes("P23.3", picked, cuts)
				if p.m.q = row[0]; !p.matches(row[0]) || !p.sweepsAs(row[0]) {
					p.m.q = row[1]
				}
				p.is("P23.5")
			}
			p.goesOn("P23.5")
		})
	}
}

// sweepsAs is whether what deleted topics left is as much as a plain broker says: no request tells that.
func (k *kit) sweepsAs(q *plain) bool {
	left := 0
	for path := range tree(k.w.Files(), "/topics") {
		var id, part int
		if n, _ := fmt.Sscanf(path, "/topics/t%d-%d", &id, &part); n == 2 && !q.has(id) {
			left++
		}
	}
	return left == q.left
}

// has is whether a topic has that ID.
func (q *plain) has(id int) bool {
	for _, x := range q.topics {
		if x.id == id {
			return true
		}
	}
	return false
}
