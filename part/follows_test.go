package part_test

import (
	"fmt"
	"reflect"
	"slices"
	"testing"

	"bollard/api"
	"bollard/part"
)

// rolled are settings.
func (x *dice) rolled() api.Settings {
	return api.Settings{
		Segment: []int{512, 600, 1000, 8192}[x.below(4)],
		Bytes:   []int{-1, 0, 600, 2000}[x.below(4)],
		Age:     []int{-1, 0, 20, 100}[x.below(4)],
		Compact: x.below(2) > 0,
		Delay:   []int{0, 10, 60}[x.below(3)],
	}
}

// TestPlays: rows of calls, held against lists; offsets tell the same ever after, or nothing; Start and Next never fall.
func TestPlays(t *testing.T) {
	for seed := range 60 {
		x := dice(seed)
		s := x.rolled()
		k := made(t, 1500, 90)
		p, q := k.makes("/p", s), newPlain(t, s)
		seen := map[int]api.Record{}
		start, next := 0, 0
		for now := range 80 {
			switch x.below(9) {
			case 0:
				p = k.opens("/p", s)
			case 1:
				k = k.fork()
				p = k.opens("/p", s)
			case 2:
				k.retains(p, q, now+x.below(30))
			case 3, 4:
				k.compacts(p, q, now+x.below(30))
			case 5:
				k.reads("P15.3", p, q, x.below(q.next()+3)-1, x.below(1500))
				k.finds("P15.3", p, q, x.below(100))
			default:
				l := x.records(now)
				k.appends("P15.2", p, q, x.below(3), now, l)
				if p.Next() != next+len(l) {
					t.Fatalf("P15.7: Next() = %d behind %d records at %d", p.Next(), len(l), next)
				}
			}
			k.is("P15.7", p, q)
			if p.Start() < start || p.Next() < next {
				t.Fatalf("P15.7: Start and Next are %d %d, were %d %d", p.Start(), p.Next(), start, next)
			}
			start, next = p.Start(), p.Next()
			keeps(t, p, seen)
		}
	}
}

// keeps must be what was told at each offset, or nothing.
func keeps(t *testing.T, p *part.Part, seen map[int]api.Record) {
	t.Helper()
	for offset, r := range told(t, p) {
		if was, ok := seen[offset]; ok && was != r {
			t.Fatalf("P15.7: at %d is %v, was %v", offset, r, was)
		}
		seen[offset] = r
	}
}

// TestTransactions: rows of transactions that are committed, or aborted and opened again.
func TestTransactions(t *testing.T) {
	for seed := range 25 {
		x := dice(seed)
		s := x.rolled()
		k := made(t, 1500, 90)
		p, q := k.makes("/p", s), newPlain(t, s)
		for now := range 15 {
			k.do(k.f.Begin())
			was := q.clone()
			for range x.below(5) {
				switch x.below(4) {
				case 0:
					k.retains(p, q, now)
				case 1:
					k.compacts(p, q, now)
				default:
					k.appends("P15.2", p, q, x.below(3), now, x.records(now))
				}
				k.is("P15.6", p, q)
			}
			if x.below(2) == 0 {
				k.do(k.f.Commit())
			} else {
				k.do(k.f.Abort())
				q = was
				p = k.opens("/p", s)
			}
			k.is("P15.6", p, q)
		}
	}
}

// TestApart: partitions of one file system, and of others, have nothing in common.
func TestApart(t *testing.T) {
	k, other := made(t, 1500, 90), made(t, 700, 40)
	s := api.Settings{Segment: 512, Bytes: 600, Age: -1}
	var ps []*part.Part
	var qs []*plain
	for i := range 4 {
		ps, qs = append(ps, k.makes(fmt.Sprint("/p", i), s)), append(qs, newPlain(t, s))
	}
	elsewhere, q := other.makes("/p0", s), newPlain(t, s)
	x := dice(3)
	for now := range 120 {
		i := x.below(4)
		switch x.below(5) {
		case 0:
			k.retains(ps[i], qs[i], now)
		case 1:
			k.compacts(ps[i], qs[i], now)
		case 2:
			other.appends("P15.2", elsewhere, q, 0, now, x.records(now))
		default:
			k.appends("P15.2", ps[i], qs[i], i, now, x.records(now))
		}
		for i := range ps {
			k.is("P15.7", ps[i], qs[i])
		}
		other.is("P15.7", elsewhere, q)
	}
}

// spoil overwrites records, with all the room that they have.
func spoil(l []api.Record) {
	l = l[:cap(l)]
	for i := range l {
		l[i] = api.Record{HasKey: true, Key: "spoilt", Time: 1 << 49, Off: 77}
	}
}

// TestHandedIn: records that were appended, or refused, are not changed, their spare room neither, and may be overwritten.
func TestHandedIn(t *testing.T) {
	k := made(t, 700, 40)
	p, q := k.filled(kept(512))
	rows := append(sealedRows(), timed(4, 5), timed(-1), recs(1, "a="+long(2001)))
	for i, l := range rows {
		l = append(l, api.Record{Val: "spare", Time: -7})[:len(l)]
		l[0].Off = 44
		was := slices.Clone(l)
		q.append(i, i, was)
		p.Append(i, i, l)
		if !reflect.DeepEqual(l, was) || l[:len(l)+1][len(l)].Val != "spare" {
			t.Error("P15.8: what was handed in was changed")
		}
		spoil(l)
		k.is("P15.8", p, q)
	}
	k.again("P15.8", "/p", q)
}

// TestAnswered: what was answered may be overwritten without a change of the partition, of another answer, or of another list of the same answer.
func TestAnswered(t *testing.T) {
	k := made(t, 700, 40)
	one, q := k.segmented(kept(512))
	for _, p := range []*part.Part{one, k.opens("/p", q.set)} {
		for i, want := range q.all() {
			l, _ := p.Read(0, most)
			other, _ := p.Read(0, most)
			if !reflect.DeepEqual(l[i], want) {
				t.Fatalf("P15.3: the batch %d is %s", i, short(l[i]))
			}
			spoil(l[i].Records)
			for j, b := range q.all() {
				if j != i && !reflect.DeepEqual(l[j], b) {
					t.Errorf("P15.8: the batches %d and %d share memory", i, j)
				}
			}
			l = l[:cap(l)]
			for j := range l {
				l[j] = api.Batch{Base: 77}
			}
			if !same(other, q.all()) {
				t.Error("P15.8: two answers share memory")
			}
			k.is("P15.8", p, q)
		}
		bases := p.Segments()
		bases = bases[:cap(bases)]
		for i := range bases {
			bases[i] = -7
		}
		k.is("P15.8", p, q)
	}
	k.compacts(one, q, 0)
	k.again("P15.8", "/p", q)
}

// TestLookers change nothing.
func TestLookers(t *testing.T) {
	k := made(t, 700, 40)
	p, q := k.segmented(kept(512))
	k.still("P15.8", "who looks", func() {
		k.readsAll("P15.3", p, q)
		p.Segments()
		p.Dir()
		k.refuses("P15.2", p, 0, 0, nil, arg)
	})
}
