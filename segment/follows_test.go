package segment_test

import (
	"fmt"
	"reflect"
	"testing"

	"bollard/api"
	"bollard/batch"
)

// TestPlays: rows of calls, held against a list.
func TestPlays(t *testing.T) {
	for seed := range 30 {
		x := dice(seed)
		k := made(t, 700, 20)
		base := x.below(9)
		s, p := k.makes("/s", base), plain{base: base}
		for range 60 {
			switch x.below(8) {
			case 0:
				s = k.opens("/s", base)
			case 1:
				k = mounted(t, k.d.Crash(nil))
				s = k.opens("/s", base)
			case 2, 3:
				k.reads("P14.3", s, p, x.below(p.next()+3)-1, x.below(1000))
			case 4:
				k.finds("P14.3", s, p, x.below(55))
			default:
				b := x.batch(max(0, p.next()+x.below(5)-1))
				k.appends("P14.2", s, b, p.append(b))
			}
			k.is("P14.5", s, "/s", p)
		}
	}
}

// TestTransactions: rows of transactions that are committed, or aborted and opened again.
func TestTransactions(t *testing.T) {
	for seed := range 20 {
		x := dice(seed)
		k := made(t, 700, 20)
		s, p := k.makes("/s", 0), plain{base: 0}
		for range 20 {
			k.do(k.f.Begin())
			was := copied(p.l)
			for range x.below(5) {
				b := x.batch(max(0, p.next()+x.below(3)-1))
				k.appends("P14.2", s, b, p.append(b))
				k.is("P14.2", s, "/s", p)
			}
			if x.below(2) == 0 {
				k.do(k.f.Commit())
			} else {
				k.do(k.f.Abort())
				p.l = was
				s = k.opens("/s", 0)
			}
			k.is("P14.4", s, "/s", p)
		}
	}
}

// TestBytes: the file's bytes are its batches, one behind the other, as chapter 13 lays them.
func TestBytes(t *testing.T) {
	k := made(t, 400, 20)
	s, p := k.full("/s")
	left := k.bytes("/s")
	for i, want := range p.l {
		b, n, e := batch.Decode(left)
		if e != ok || !reflect.DeepEqual(b, want) {
			t.Fatalf("P14.5: the batch %d in the file is %s %d, want %s", i, short(b), e, short(want))
		}
		left = left[n:]
	}
	if len(left) != 0 || s.Size() != len(k.bytes("/s")) {
		t.Errorf("P14.5: %d bytes are left behind the batches, of %d", len(left), s.Size())
	}
}

// TestHandedIn: a batch that was appended is not changed, its records' spare room neither, and may be overwritten.
func TestHandedIn(t *testing.T) {
	k := made(t, 400, 20)
	s, p := k.makes("/s", 5), plain{base: 5}
	for _, b := range row() {
		b.Records = append(b.Records, api.Record{Val: "spare", Time: -7})[:len(b.Records)]
		was := copied([]api.Batch{b})[0]
		k.appends("P14.2", s, b, ok)
		p.append(was)
		if !reflect.DeepEqual(b, was) || b.Records[:len(b.Records)+1][len(b.Records)].Val != "spare" {
			t.Error("P14.5: what was handed in was changed")
		}
		spoil(b.Records)
		k.is("P14.5", s, "/s", p)
	}
	k.is("P14.5", k.opens("/s", 5), "/s", p)
}

// TestHandedInRefused: neither is one that is refused.
func TestHandedInRefused(t *testing.T) {
	k := made(t, 400, 20)
	s, p := k.full("/s")
	for _, l := range wrongs(300) {
		for _, b := range append(l, timed(0, 1, 1)) {
			was := copied([]api.Batch{b})[0]
			s.Append(b)
			if !same([]api.Batch{b}, []api.Batch{was}) {
				t.Error("P14.5: what was handed in was changed")
			}
			spoil(b.Records)
			k.is("P14.5", s, "/s", p)
		}
	}
}

// spoil overwrites records, with all the room that they have.
func spoil(l []api.Record) {
	l = l[:cap(l)]
	for i := range l {
		l[i] = api.Record{HasKey: true, Key: "spoilt", Time: 1 << 49, Off: 77}
	}
}

// TestAnswered: what was answered may be overwritten without a change of the segment, of another answer, or of another list of the same answer.
func TestAnswered(t *testing.T) {
	k := made(t, 400, 20)
	one, p := k.full("/s")
	for name, answer := range map[string]func() []api.Batch{
		"All of one that was appended to":  one.All,
		"All of one that was opened":       k.opens("/s", 5).All,
		"Read of one that was appended to": func() []api.Batch { return one.Read(0, most) },
		"Read of one that was opened":      func() []api.Batch { return k.opens("/s", 5).Read(0, most) },
	} {
		for i := range p.l {
			l, other := answer(), answer()
			spoil(l[i].Records)
			for j := range p.l {
				if j != i && !reflect.DeepEqual(l[j], p.l[j]) {
					t.Errorf("P14.5: %s: the batches %d and %d share memory", name, i, j)
				}
			}
			l = l[:cap(l)]
			for j := range l {
				l[j] = api.Batch{Base: 77}
			}
			if !same(other, p.l) {
				t.Errorf("P14.5: %s: two answers share memory", name)
			}
			k.is("P14.5", one, "/s", p)
			k.is("P14.5", k.opens("/s", 5), "/s", p)
		}
	}
}

// TestApart: segments of one file system, and of others, have nothing in common.
func TestApart(t *testing.T) {
	k, other := made(t, 700, 40), made(t, 400, 20)
	elsewhere := other.makes("/s0", 1)
	for i := range 5 {
		k.makes(fmt.Sprint("/s", i), i)
	}
	lists := map[string]*plain{}
	for i := range 5 {
		path := fmt.Sprint("/s", i)
		s, p := k.opens(path, i), &plain{base: i}
		lists[path] = p
		for j := range 3 {
			b := timed(i*10+j*2, 1+j%2, i+j)
			k.appends("P14.2", s, b, p.append(b))
		}
	}
	for path, p := range lists {
		k.is("P14.5", k.opens(path, p.base), path, *p)
	}
	other.is("P14.5", elsewhere, "/s0", plain{base: 1})
}
