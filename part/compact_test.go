package part_test

import (
	"fmt"
	"testing"

	"bollard/api"
	"bollard/part"
)

// pad is a record without a key, so great that no other batch goes into the same segment of 512 bytes.
func pad() string { return "-=" + long(400) }

// padded is a partition of one segment for each text, of records as recs tells them, parted by blanks, and a pad.
func (k *kit) padded(s api.Settings, time func(i int) int, rows ...[]string) (*part.Part, *plain) {
	k.t.Helper()
	p, q := k.filled(s)
	for i, row := range rows {
		k.appends("P15.2", p, q, i, i+1, recs(time(i), append(row, pad())...))
	}
	if len(q.segs) != len(rows) {
		k.t.Fatalf("the test's own partition has %d segments for %d rows", len(q.segs), len(rows))
	}
	return p, q
}

func atFive(int) int { return 5 }

// left is which records are left in each segment, without the pads.
func left(t *testing.T, p *part.Part) (out string) {
	t.Helper()
	bases := append(p.Segments(), p.Next())
	l, _ := p.Read(p.Start(), most)
	for i := range bases[1:] {
		out += "["
		for _, b := range l {
			for _, r := range b.Records {
				if b.Base >= bases[i] && b.Base < bases[i+1] && len(r.Val) < 400 {
					out += fmt.Sprint(" ", b.Base+r.Off, r.Key, "=", r.Val)
				}
			}
		}
		out += " ]"
	}
	return out
}

// TestCompact: which records stay, one Compact after the other.
func TestCompact(t *testing.T) {
	for _, x := range []struct {
		name string
		rows [][]string
		want []string
	}{
		{"in the same batch", [][]string{{"a=1", "b=1", "a=2"}, {"c=1"}}, []string{"[ 1b=1 2a=2 ][ 4c=1 ]"}},
		{"in a later sealed segment", [][]string{{"a=1", "b=1"}, {"a=2"}, {"c=1"}}, []string{"[ 1b=1 ][ 3a=2 ][ 5c=1 ]"}},
		{"in the active one alone", [][]string{{"a=1", "b=1"}, {"c=1"}, {"a=2"}}, []string{"[ 1b=1 ][ 3c=1 ][ 5a=2 ]"}},
		{"in all", [][]string{{"a=1"}, {"a=2"}, {"a=3"}, {"a=4"}}, []string{"[ ][ 2a=2 ][ 4a=3 ][ 6a=4 ]", "[ ][ ][ 4a=3 ][ 6a=4 ]", "[ ][ ][ ][ 6a=4 ]"}},
		{"within the active one", [][]string{{"b=1"}, {"a=1", "a=2", "a=3"}}, nil},
		{"with no key", [][]string{{"-=1", "-=1", "-=-"}, {"-=1"}, {"-=1"}}, nil},
		{"with an empty key", [][]string{{"=1", "-=1"}, {"=2", "-=1"}, {"-=3"}}, []string{"[ 1=1 ][ 3=2 4=1 ][ 6=3 ]"}},
		{"with no key behind an empty one", [][]string{{"=1"}, {"-=1"}, {"-=-"}}, nil},
		{"with a tombstone behind", [][]string{{"a=1"}, {"a=-"}, {"b=1"}}, []string{"[ ][ 2a= ][ 4b=1 ]"}},
		{"with a value behind a tombstone", [][]string{{"a=-"}, {"a=1"}, {"b=1"}}, []string{"[ ][ 2a=1 ][ 4b=1 ]"}},
		{"with an empty value", [][]string{{"a="}, {"b="}, {"a="}}, []string{"[ ][ 2b= ][ 4a= ]"}},
		{"with keys that begin alike", [][]string{{"a=1", "aa=1", "A=1"}, {"ab=1"}, {"b=1"}}, nil},
		{"with nothing to do", [][]string{{"a=1"}, {"b=1"}, {"c=1"}}, nil},
		{"with one segment", [][]string{{"a=1", "a=2"}}, nil},
		{"in the second alone", [][]string{{"a=1"}, {"b=1", "c=1", "b=2"}, {"d=1"}}, []string{"[ 0a=1 ][ 3c=1 4b=2 ][ 6d=1 ]"}},
	} {
		k := made(t, 700, 40)
		s := kept(512)
		s.Delay = last
		p, q := k.padded(s, atFive, x.rows...)
		for i, want := range x.want {
			if !k.compacts(p, q, 0) || left(t, p) != want {
				t.Fatalf("P15.5: a key %s: Compact %d left %s, want %s", x.name, i, left(t, p), want)
			}
			k.is("P15.5", p, q)
			k.readsAll("P15.5", p, q)
			k.again("P15.5", "/p", q)
		}
		k.still("P15.5", "Compact with nothing to do", func() {
			if k.compacts(p, q, 0) {
				t.Fatalf("P15.5: a key %s: Compact does not end", x.name)
			}
		})
		k.is("P15.5", p, q)
	}
}

// TestTombstones: those whose Time is just Delay below now stay, those one more below go, of whichever key they are the last record.
func TestTombstones(t *testing.T) {
	for _, delay := range []int{0, 1, 15, last} {
		for _, time := range []int{0, 7, last} {
			for _, now := range []int{least, -1, 0, time - 1, time, time + delay - 1, time + delay, time + delay + 1, most} {
				k := made(t, 700, 40)
				s := kept(512)
				s.Delay = delay
				p, q := k.padded(s, func(int) int { return time }, []string{"a=-", "b=1"}, []string{"c=-", "=-", "-=-"}, []string{"d=-"})
				did := 0
				for k.compacts(p, q, now) {
					did++
					k.is("P15.5", p, q)
				}
				want, n := "[ 0a= 1b=1 ][ 3c= 4= 5= ][ 7d= ]", 0
				if now > time+delay {
					want, n = "[ 1b=1 ][ 5= ][ 7d= ]", 2
				}
				if left(t, p) != want || did != n {
					t.Errorf("P15.5: Delay %d, Time %d: %d Compact(%d) left %s, want %s", delay, time, did, now, left(t, p), want)
				}
				k.again("P15.5", "/p", q)
			}
		}
	}
}

// TestTombstoneHides: a tombstone that goes takes nothing else with it, and what it hid was gone ahead of it or goes with it.
func TestTombstoneHides(t *testing.T) {
	k := made(t, 700, 40)
	p, q := k.padded(kept(512), atFive, []string{"a=1", "b=1"}, []string{"a=-"}, []string{"c=1"})
	for _, want := range []string{"[ 1b=1 ][ 3a= ][ 5c=1 ]", "[ 1b=1 ][ ][ 5c=1 ]", "[ 1b=1 ][ ][ 5c=1 ]"} {
		k.compacts(p, q, 6)
		if got := left(t, p); got != want {
			t.Fatalf("P15.5: Compact left %s, want %s", got, want)
		}
		k.again("P15.5", "/p", q)
	}
}

// TestCompactBatches: Base, Span, Producer, Seq and the Offs stay; batches without a record that stays are left out, of the first, a middle and the last one.
func TestCompactBatches(t *testing.T) {
	k := made(t, 700, 40)
	p, q := k.filled(kept(700))
	for i, row := range [][]string{{"a=1"}, {"b=1", "a=2", "c=1"}, {"a=3", "a=4"}, {"-=", "b=2"}, {"a=5"}, {"d=" + long(400)}, {"b=3", "a=6"}} {
		k.appends("P15.2", p, q, 10*i, 100*i, recs(i, row...))
	}
	for k.compacts(p, q, 0) {
		k.readsAll("P15.5", p, q)
	}
	l, _ := p.Read(0, most)
	got := fmt.Sprint(shorts(l))
	if want := "[1+3 by 10.100 2:c 6+2 by 30.300 0: 9+1 by 50.500 0:d 10+2 by 60.600 0:b 1:a]"; got != want {
		t.Errorf("P15.5: Compact left %s, want %s", got, want)
	}
	k.again("P15.5", "/p", q)
}

// TestCompactNone: a segment of which no batch stays is there still, empty.
func TestCompactNone(t *testing.T) {
	k := made(t, 700, 40)
	p, q := k.filled(kept(512), sized(t, 300), sized(t, 300), sized(t, 300))
	k.compacts(p, q, 0)
	k.compacts(p, q, 0)
	if n := len(q.all()); n != 1 || fmt.Sprint(p.Segments()) != "[0 1 2]" || p.Start() != 0 || p.Next() != 3 {
		t.Errorf("P15.5: Segments() = %v with %d batches", p.Segments(), n)
	}
	k.readsAll("P15.5", p, q)
	k.again("P15.5", "/p", q)
	for i := range 3 {
		k.appends("P15.2", p, q, 1, i, sized(t, 300))
		k.compacts(p, q, 0)
		k.is("P15.5", p, q)
	}
	k.again("P15.5", "/p", q)
}

// TestCompactGreat: segments as great as there may be.
func TestCompactGreat(t *testing.T) {
	k := made(t, 2000, 100)
	p, q := k.filled(kept(8192))
	x := long(1900)
	for i := range 60 {
		k.appends("P15.2", p, q, 0, 0, recs(i, fmt.Sprint(i%7, "="), fmt.Sprint("x", i%40, "=", x[:1500+i])))
	}
	for k.compacts(p, q, 0) {
		k.is("P15.5", p, q)
	}
	k.again("P15.5", "/p", q)
	p, q = k.makes("/q", kept(512)), newPlain(t, kept(512))
	for i := range 4 {
		k.appends("P15.2", p, q, 0, 0, recs(i, "a=1", "b="+x, "c="+x, fmt.Sprint(i, "=", x)))
	}
	for k.compacts(p, q, 0) {
		k.is("P15.5", p, q)
	}
	k.again("P15.5", "/q", q)
}

// TestCompactNew: a `.new` that is there already is removed first, file or empty directory.
func TestCompactNew(t *testing.T) {
	for _, lay := range []func(k *kit){
		func(k *kit) { k.lay("/p/00000000000000000000.new", make([]byte, 3000)) },
		func(k *kit) { k.lay("/p/00000000000000000000.new", laid(t, fresh(t, 0, 0, 0, timed(1)))) },
		func(k *kit) { k.do(k.f.Create("/p/00000000000000000000.new")) },
		func(k *kit) { k.do(k.f.Mkdir("/p/00000000000000000000.new")) },
	} {
		k := made(t, 700, 40)
		p, q := k.filled(kept(512), sealedRows()...)
		lay(k)
		k.compacts(p, q, 0)
		k.is("P15.5", p, q)
		k.again("P15.5", "/p", q)
	}
	k := made(t, 700, 40)
	p, q := k.filled(kept(512), sealedRows()...)
	k.do(k.f.Create("/p/00000000000000000002.new"), k.f.Create("/p/x.new"))
	k.compacts(p, q, 0)
	if l, _ := k.f.List("/p"); len(l) != 5 {
		t.Errorf("P15.5: Compact of the first segment left %q", l)
	}
	k.tells("P15.5", p, q)
}

// TestCompactNewBusy: where it can't be removed, that is told, and all is as it was.
func TestCompactNewBusy(t *testing.T) {
	k := made(t, 700, 40)
	p, q := k.filled(kept(512), sealedRows()...)
	k.do(k.f.Mkdir("/p/00000000000000000000.new"), k.f.Create("/p/00000000000000000000.new/x"))
	k.still("P15.5", "Compact that is refused", func() {
		if done, e := p.Compact(0); done || e != busy {
			t.Errorf("P15.5: Compact = %v %d, want false and ErrBusy", done, e)
		}
	})
	k.tells("P15.5", p, q)
	k.do(k.f.Remove("/p/00000000000000000000.new/x"))
	k.compacts(p, q, 0)
	k.is("P15.5", p, q)
}

// TestCompactNoRoom: without room the partition is as it was, and so is all else.
func TestCompactNoRoom(t *testing.T) {
	was, done := 0, 0
	rows := [][]api.Record{recs(1, "a=1", "b="+long(1500)), recs(2, "a=2", "c="+long(1500)), recs(3, "a=3", "d="+long(300))}
	for room := range 7 {
		for _, beside := range []int{-1, 0, 700} {
			for _, begun := range []bool{false, true} {
				k := made(t, 280, 20)
				k.do(k.f.Create("/fill0"), k.f.Create("/fill1"))
				p, q := k.filled(kept(512), rows...)
				if beside >= 0 {
					k.lay("/p/00000000000000000000.new", make([]byte, beside))
				}
				k.leave(room)
				if begun {
					k.do(k.f.Begin(), k.f.Create("/made within"))
				}
				k.compactFull(p, q, &was, &done)
				if begun {
					k.do(k.f.Commit())
				}
				k.tells("P15.5", p, q)
				k.again("P15.5", "/p", q)
			}
		}
	}
	if was == 0 || done == 0 {
		t.Errorf("P15.5: of the devices %d had no room, %d had it", was, done)
	}
}

// leave fills /fill0 and /fill1, up to ten blocks each, until so many blocks are free.
func (k *kit) leave(n int) {
	k.t.Helper()
	for i := range 20 {
		if blocks, _ := k.f.Free(); blocks > n {
			k.do(k.f.Append(fmt.Sprint("/fill", i/10), make([]byte, 512)))
		}
	}
	if blocks, _ := k.f.Free(); blocks != n {
		k.t.Fatalf("the test's own device has %d blocks free, not %d", blocks, n)
	}
}

// compactFull compacts where there may be no room.
func (k *kit) compactFull(p *part.Part, q *plain, was, done *int) {
	k.t.Helper()
	old := show(k.f)
	did, e := p.Compact(0)
	switch {
	case did && e == ok:
		*done++
		q.compact(0)
		k.is("P15.5", p, q)
	case !did && e == full:
		*was++
		if now := show(k.f); now != old {
			k.t.Fatalf("P15.5: Compact without room left\n%s\nwas\n%s", now, old)
		}
	default:
		k.t.Fatalf("P15.5: Compact without room = %v %d", did, e)
	}
}

// TestCompactReads: behind each Compact each offset tells the same record, or nothing; each key's last value is there.
func TestCompactReads(t *testing.T) {
	k := made(t, 700, 40)
	p, q := k.segmented(kept(512))
	seen := told(t, p)
	values := lastValues(t, p)
	for k.compacts(p, q, 1000) {
		for offset, r := range told(t, p) {
			if seen[offset] != r {
				t.Fatalf("P15.7: at %d is %v, was %v", offset, r, seen[offset])
			}
		}
		if got := lastValues(t, p); fmt.Sprint(got) != fmt.Sprint(values) {
			t.Fatalf("P15.5: the last values are %v, want %v", got, values)
		}
	}
	if len(told(t, p)) >= len(seen) {
		t.Error("the test's own partition was not compacted")
	}
}

// told is the record at each offset.
func told(t *testing.T, p *part.Part) map[int]api.Record {
	t.Helper()
	l, e := p.Read(p.Start(), most)
	if e != ok {
		t.Fatalf("P15.3: Read = %d", e)
	}
	m := map[int]api.Record{}
	for _, b := range l {
		for _, r := range b.Records {
			m[b.Base+r.Off] = r
		}
	}
	return m
}

// lastValues are the last value of each key.
func lastValues(t *testing.T, p *part.Part) map[string]string {
	t.Helper()
	m := map[string]string{}
	l, _ := p.Read(p.Start(), most)
	for _, b := range l {
		for _, r := range b.Records {
			if r.HasKey {
				m[r.Key] = r.Val
			}
		}
	}
	return m
}
