package part_test

import (
	"fmt"
	"strings"
	"testing"

	"bollard/api"
	"bollard/part"
)

// TestAppend: all that is told behind each Append, and what Open reads behind it.
func TestAppend(t *testing.T) {
	k := made(t, 700, 40)
	p, q := k.filled(kept(600))
	for i, l := range [][]api.Record{
		timed(5), recs(4, "a=1", "b=-", "-=", "-=-", "="), sized(t, 300), sized(t, 80), sized(t, 80), sized(t, 80), sized(t, 700), timed(0, last), sized(t, 4000), sized(t, 599), timed(1), timed(3),
	} {
		k.appends("P15.2", p, q, i, 2*i, l)
		k.is("P15.2", p, q)
		k.again("P15.1", "/p", q)
	}
}

// TestAppendBehindOpen: each batch is appended to what Open reads.
func TestAppendBehindOpen(t *testing.T) {
	k := made(t, 700, 40)
	_, q := k.filled(kept(512))
	for i := range 20 {
		k.appends("P15.2", k.opens("/p", q.set), q, 7, i, recs(i, "k=v", fmt.Sprint(i, "=", long(20*i))))
		if i%3 == 0 {
			k = k.fork()
		}
		k.is("P15.2", k.opens("/p", q.set), q)
	}
}

// TestAppendCounts: of no records, of 1, of 100, of 101.
func TestAppendCounts(t *testing.T) {
	k := made(t, 700, 40)
	p, q := k.filled(kept(8192))
	for range 3 {
		k.refuses("P15.2", p, 0, 0, nil, arg)
		k.refuses("P15.2", p, 0, 0, []api.Record{}, arg)
		k.refuses("P15.2", p, 0, 0, timed(make([]int, 101)...), arg)
		k.refuses("P15.2", p, 0, 0, timed(make([]int, 5000)...), arg)
		for _, n := range []int{1, 2, 99, 100} {
			base := p.Next()
			k.appends("P15.2", p, q, 0, 0, timed(make([]int, n)...))
			if p.Next() != base+n {
				t.Fatalf("P15.7: Next() = %d behind %d records at %d", p.Next(), n, base)
			}
		}
		k.is("P15.2", p, q)
	}
}

// wrongRecords are what chapter 13 refuses, by that error.
func wrongRecords() map[api.Errno][][]api.Record {
	x := long(api.MaxRecord)
	return map[api.Errno][][]api.Record{
		arg: {nil, timed(-1), timed(5, last+1), timed(least), timed(most), {{Key: "k"}}, {{Val: "v"}}, append(timed(1), api.Record{Key: "k", Time: 1})},
		big: {recs(1, "a="+x+"x"), recs(1, x+"x="), recs(1, "a=1", x+"x=1"), recs(1, "a="+x, "b="+x, "c="+x)},
	}
}

// TestAppendWrong: 13's Fresh's errors; nothing has changed behind it.
func TestAppendWrong(t *testing.T) {
	k := made(t, 700, 40)
	p, q := k.filled(kept(512))
	for range 3 {
		for e, l := range wrongRecords() {
			for _, r := range l {
				k.refuses("P15.2", p, 0, 0, r, e)
			}
		}
		for _, n := range []int{-1, least} {
			k.refuses("P15.2", p, n, 0, timed(1), arg)
			k.refuses("P15.2", p, 0, n, timed(1), arg)
			k.refuses("P15.2", p, n, n, wrongRecords()[big][0], arg)
		}
		k.is("P15.2", p, q)
		k.appends("P15.2", p, q, most, most, sized(t, 300))
		k.appends("P15.2", p, q, 0, most, timed(1))
		k.appends("P15.2", p, q, most, 0, timed(1))
		k.is("P15.2", p, q)
	}
	k.again("P15.1", "/p", q)
}

// TestAppendOffs: what the records say of their Offs is not looked at.
func TestAppendOffs(t *testing.T) {
	k := made(t, 700, 40)
	p, _ := k.filled(kept(512))
	l := timed(1, 2, 3)
	l[0].Off, l[1].Off, l[2].Off = 99, -5, most
	p.Append(0, 0, l)
	got, _ := p.Read(0, most)
	if len(got) != 1 || got[0].Span != 3 || got[0].Records[0].Off != 0 || got[0].Records[1].Off != 1 || got[0].Records[2].Off != 2 {
		t.Errorf("P15.2: the batch is %v", shorts(got))
	}
}

// TestRoll: at just Segment bytes in all, at one less and one more.
func TestRoll(t *testing.T) {
	for _, segment := range []int{512, 513, 700, 3000, 8191, 8192} {
		for _, first := range []int{90, 200, 400, 512, 600, 3000, 4000} {
			for _, more := range []int{-1, 0, 1} {
				k := made(t, 700, 40)
				p, q := k.filled(kept(segment), sized(t, first))
				rest := segment - first
				for rest > 4080 {
					k.appends("P15.2", p, q, 0, 0, sized(t, 4000))
					rest -= 4000
				}
				if rest+more < 80 {
					continue
				}
				k.appends("P15.2", p, q, 0, 0, sized(t, rest+more))
				if rolled := len(p.Segments()) == 2; rolled != (more > 0) {
					t.Fatalf("P15.2: Segment %d: a batch by which it would have %d bytes: %v", segment, segment+more, p.Segments())
				}
				k.is("P15.2", p, q)
				k.again("P15.1", "/p", q)
			}
		}
	}
}

// TestRollGreat: a batch that alone has more than Segment goes into an active segment without batches, and into a new one of its own else.
func TestRollGreat(t *testing.T) {
	k := made(t, 700, 40)
	p, q := k.filled(kept(512))
	for i, want := range []string{"[0]", "[0 1]", "[0 1 2]"} {
		k.appends("P15.2", p, q, 0, 0, sized(t, 513+1000*i))
		if got := fmt.Sprint(p.Segments()); got != want {
			t.Fatalf("P15.2: Segments() = %s, want %s", got, want)
		}
		k.is("P15.2", p, q)
	}
	x := long(1900)
	k.appends("P15.2", p, q, 0, 0, recs(1, "a="+x, "b="+x, "c="+x))
	k.again("P15.1", "/p", q)
}

// TestRollEmpty: an active segment that Open left without batches is not sealed.
func TestRollEmpty(t *testing.T) {
	k := made(t, 700, 40)
	k.filled(kept(512))
	k.lay("/p/00000000000000000007", []byte("torn"))
	q := &plain{t, kept(512), []seg{{base: 0}, {base: 7}}}
	p := k.opens("/p", q.set)
	k.is("P15.1", p, q)
	for _, n := range []int{2000, 300, 213} {
		k.appends("P15.2", p, q, 0, 0, sized(t, n))
		k.is("P15.2", p, q)
	}
	if got := fmt.Sprint(p.Segments()); got != "[0 7 8 9]" {
		t.Errorf("P15.2: Segments() = %s", got)
	}
}

// TestAppendNoRoom: without room nothing happens, not even a new segment; what fits is taken.
func TestAppendNoRoom(t *testing.T) {
	refused := 0
	for blocks := 253; blocks < 290; blocks++ {
		for _, begun := range []bool{false, true} {
			k := made(t, blocks, 24)
			p, q := k.filled(kept(512))
			for range 3 {
				if begun {
					k.do(k.f.Begin())
				}
				if !k.fillUp(p, q) {
					refused++
				}
				if begun {
					k.do(k.f.Commit())
				}
				k.is("P15.2", p, q)
				k.again("P15.2", "/p", q)
			}
		}
	}
	if refused == 0 {
		t.Error("the test's own devices had room for all")
	}
}

// fillUp appends until there is no room, at most five times.
func (k *kit) fillUp(p *part.Part, q *plain) (room bool) {
	k.t.Helper()
	for i := range 5 {
		l := sized(k.t, 90+700*(i%3))
		was := show(k.f)
		base, e := p.Append(1, i, l)
		if e == ok {
			if want, _ := q.append(1, i, l); base != want {
				k.t.Fatalf("P15.2: Append = %d, want %d", base, want)
			}
			continue
		}
		if now := show(k.f); base != 0 || e != full || now != was {
			k.t.Fatalf("P15.2: Append without room = %d %d, and left\n%s\nwas\n%s", base, e, now, was)
		}
		return false
	}
	return true
}

// TestAppendNoInode: the new segment may be what has no room.
func TestAppendNoInode(t *testing.T) {
	k := made(t, 400, 8)
	p, q := k.filled(kept(512), sized(t, 300))
	for i := range 5 {
		k.do(k.f.Create(fmt.Sprint("/x", i)))
	}
	k.refuses("P15.2", p, 0, 0, sized(t, 300), full)
	k.is("P15.2", p, q)
	k.appends("P15.2", p, q, 0, 0, sized(t, 212))
	k.is("P15.2", p, q)
	k.do(k.f.Remove("/x0"))
	k.appends("P15.2", p, q, 0, 0, sized(t, 300))
	k.again("P15.2", "/p", q)
}

// TestAppendGone: the file system's errors where the files are gone.
func TestAppendGone(t *testing.T) {
	k := made(t, 400, 20)
	p, _ := k.filled(kept(512), sized(t, 300))
	k.do(k.f.Create("/p/00000000000000000001"))
	k.refuses("P15.2", p, 0, 0, sized(t, 300), exist)
	k.do(k.f.Remove("/p/00000000000000000001"), k.f.Remove("/p/00000000000000000000"))
	k.refuses("P15.2", p, 0, 0, timed(1), none)
	k.refuses("P15.2", p, 0, 0, nil, arg)
	k.do(k.f.Remove("/p"))
	k.refuses("P15.2", p, 0, 0, sized(t, 300), none)
	k.do(k.f.Create("/p"))
	k.refuses("P15.2", p, 0, 0, sized(t, 300), kind)
}

// TestNames: the files' names are the bases, with noughts ahead.
func TestNames(t *testing.T) {
	k := made(t, 700, 40)
	k.do(k.f.Mkdir("/p"))
	k.lay("/p/"+strings.Repeat("0", 17)+"998", nil)
	p := k.opens("/p", kept(512))
	for range 4 {
		p.Append(0, 0, sized(t, 400))
	}
	names, _ := k.f.List("/p")
	want := "[00000000000000000998 00000000000000000999 00000000000000001000 00000000000000001001]"
	if fmt.Sprint(names) != want || fmt.Sprint(p.Segments()) != "[998 999 1000 1001]" {
		t.Errorf("P15.2: the names are %v, the bases %v", names, p.Segments())
	}
}

// TestLastOffset: offsets go up to the greatest one, and no further.
func TestLastOffset(t *testing.T) {
	k := made(t, 700, 40)
	k.do(k.f.Mkdir("/p"))
	k.lay(fmt.Sprintf("/p/%020d", last-1), nil)
	q := &plain{t, kept(512), []seg{{base: last - 1}}}
	p := k.opens("/p", q.set)
	k.appends("P15.2", p, q, 0, 0, sized(t, 400))
	k.appends("P15.2", p, q, 0, 0, append(timed(1, 2), sized(t, 400)...))
	k.is("P15.2", p, q)
	k.refuses("P15.2", p, 0, 0, timed(1), arg)
	if p.Next() != last+3 {
		t.Errorf("P15.2: Next() = %d", p.Next())
	}
	k.again("P15.1", "/p", q)
	for offset := last - 2; offset < last+5; offset++ {
		k.reads("P15.3", p, q, offset, most)
	}
}
