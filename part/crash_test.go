package part_test

import (
	"fmt"
	"testing"

	"bollard/api"
	"bollard/part"
)

// picks are what crashes choose: nothing, all, and some of what is pending.
func picks() [][]int {
	every := make([]int, 60)
	for i := range every {
		every[i] = 1
	}
	return [][]int{nil, every, {1}, {0, 1}, {0, 0, 1, 0, 1, 1, 0, 1}, {2, -1, 0, 3, 1, 0, 1, 1, 1, 1}}
}

// law holds a call, cut at each of its ops, against what it leaves: was ahead of it, is behind it.
func law(t *testing.T, promise string, old *kit, was, is *plain, do func(k *kit, p *part.Part) api.Errno) {
	t.Helper()
	seen := [2]int{}
	for cut := 0; ; cut++ {
		k := old.fork()
		p := k.opens("/p", was.set)
		k.d.Cut(cut)
		e := do(k, p)
		if e != ok && e != off {
			t.Fatalf("%s: cut at op %d it answers %d, want ErrOff", promise, cut, e)
		}
		if e == ok {
			k.is(promise, p, is)
		}
		for _, pick := range picks() {
			crashed := mounted(t, k.d.Crash(pick))
			p := crashed.opens("/p", was.set)
			switch files := fmt.Sprint(crashed.files("/p")); files {
			case fmt.Sprint(is.files()):
				seen[1]++
				crashed.again(promise, "/p", is)
				crashed.goesOn(promise, p, is.clone())
			case fmt.Sprint(was.files()):
				seen[0]++
				if e == ok {
					t.Fatalf("%s: what was answered is gone behind a crash", promise)
				}
				crashed.again(promise, "/p", was)
				crashed.goesOn(promise, p, was.clone())
			default:
				t.Fatalf("%s: cut at op %d the files are %s", promise, cut, files)
			}
		}
		if e == ok {
			break
		}
	}
	if seen[0] == 0 || seen[1] == 0 {
		t.Errorf("%s: the cuts left all %d times, nothing %d times", promise, seen[1], seen[0])
	}
}

// goesOn: a partition is one like any other.
func (k *kit) goesOn(promise string, p *part.Part, q *plain) {
	k.t.Helper()
	k.appends(promise, p, q, 3, 4, recs(9, "a=1", "z="+long(300)))
	k.is(promise, p, q)
	k.compacts(p, q, 50)
	k.is(promise, p, q)
	k.again(promise, "/p", q)
}

// sealedRows are batches that leave sealed segments, in which keys come again.
func sealedRows() [][]api.Record {
	return [][]api.Record{recs(1, "a=1", "b="+long(300)), recs(2, "a=2", "c="+long(300)), recs(3, "a=3", "e="+long(300))}
}

func TestAppendPower(t *testing.T) {
	for _, l := range [][]api.Record{timed(9), sized(t, 200), sized(t, 4000)} { // the first goes into the active segment, the others do not
		old := made(t, 400, 20)
		_, was := old.filled(kept(512), sealedRows()...)
		is := was.clone()
		is.append(5, 6, l)
		law(t, "P15.2", old, was, is, func(k *kit, p *part.Part) api.Errno {
			base, e := p.Append(5, 6, l)
			if e == ok && base != was.next() || e != ok && base != 0 {
				t.Errorf("P15.2: Append = %d %d", base, e)
			}
			if e == off {
				k.refuses("P15.2", p, 5, 6, l, off)
				k.refuses("P15.2", p, 5, 6, nil, arg)
				k.tells("P15.2", p, was)
			}
			return e
		})
	}
}

func TestRetainPower(t *testing.T) {
	old := made(t, 400, 20)
	_, was := old.filled(api.Settings{Segment: 512, Bytes: 0, Age: -1}, sealedRows()...)
	is := was.clone()
	is.retain(0)
	law(t, "P15.4", old, was, is, func(k *kit, p *part.Part) api.Errno {
		gone, e := p.Retain(0)
		if gone != (e == ok) {
			t.Errorf("P15.4: Retain = %v %d", gone, e)
		}
		if e == off {
			if gone, e := p.Retain(0); gone || e != off {
				t.Errorf("P15.4: Retain on a dead file system = %v %d", gone, e)
			}
			k.tells("P15.4", p, was)
		}
		return e
	})
}

func TestCompactPower(t *testing.T) {
	for _, beside := range []int{-1, 0, 2000} { // bytes of a `.new` that is there already
		old := made(t, 400, 20)
		rows := sealedRows()
		if beside == 0 { // then nothing of the first segment stays
			rows = append(rows, recs(4, "b=4"))
		}
		_, was := old.filled(kept(512), rows...)
		is := was.clone()
		is.compact(0)
		law(t, "P15.5", old, was, is, func(k *kit, p *part.Part) api.Errno {
			if beside >= 0 {
				if k.f.Create("/p/00000000000000000000.new") != ok || k.f.Append("/p/00000000000000000000.new", make([]byte, beside)) != ok {
					return off
				}
			}
			done, e := p.Compact(0)
			if done != (e == ok) {
				t.Errorf("P15.5: Compact = %v %d", done, e)
			}
			if e == off {
				if done, e := p.Compact(0); done || e != off {
					t.Errorf("P15.5: Compact on a dead file system = %v %d", done, e)
				}
				k.tells("P15.5", p, was)
			}
			return e
		})
	}
}

// TestMakePower: the directory is there with its segment, or not at all.
func TestMakePower(t *testing.T) {
	seen := [2]int{}
	old := made(t, 400, 20)
	was := show(old.f)
	for cut := 0; ; cut++ {
		k := old.fork()
		k.d.Cut(cut)
		e := part.Make(k.f, "/p", kept(512))
		if e != ok && e != off {
			t.Fatalf("P15.1: Make cut at op %d = %d", cut, e)
		}
		for _, pick := range picks() {
			crashed := mounted(t, k.d.Crash(pick))
			if show(crashed.f) == was && e == off {
				seen[0]++
				continue
			}
			seen[1]++
			crashed.again("P15.1", "/p", newPlain(t, kept(512)))
		}
		if e == ok {
			break
		}
	}
	if seen[0] == 0 || seen[1] == 0 {
		t.Errorf("P15.1: the cuts left all %d times, nothing %d times", seen[1], seen[0])
	}
}

// TestTransactionPower: a transaction of Append, Retain and Compact is there wholly or not at all.
func TestTransactionPower(t *testing.T) {
	old := made(t, 400, 20)
	_, was := old.filled(api.Settings{Segment: 512, Bytes: 600, Age: -1}, sealedRows()...)
	is := was.clone()
	is.append(1, 2, recs(4, "c=4", "d="+long(300)))
	is.compact(0)
	is.retain(0)
	law(t, "P15.6", old, was, is, func(k *kit, p *part.Part) api.Errno {
		k.do(k.f.Begin())
		q := was.clone()
		k.appends("P15.2", p, q, 1, 2, recs(4, "c=4", "d="+long(300)))
		k.compacts(p, q, 0)
		k.retains(p, q, 0)
		k.is("P15.6", p, q)
		return k.f.Commit()
	})
}

// TestPlaysPower: plays with cuts: what was answered is there, the one that was cut off wholly or not at all.
func TestPlaysPower(t *testing.T) {
	for seed := range 40 {
		x := dice(seed)
		s := api.Settings{Segment: 512, Bytes: 1500, Age: -1, Delay: 5}
		k := made(t, 400, 40)
		p, q := k.makes("/p", s), newPlain(t, s)
		for now := range 12 {
			k.d.Cut(x.below(80))
			was, is := q, q
			for e := ok; e == ok; {
				was, is = is, is.clone()
				switch x.below(4) {
				case 0:
					_, e = p.Retain(now)
					is.retain(now)
				case 1:
					_, e = p.Compact(now)
					is.compact(now)
				default:
					l := x.records(now)
					_, e = p.Append(1, now, l)
					is.append(1, now, l)
				}
				if e != ok && e != off {
					t.Fatalf("P15.7: seed %d: %d", seed, e)
				}
			}
			k = mounted(t, k.d.Crash(picks()[x.below(6)]))
			p = k.opens("/p", s)
			q = was
			if fmt.Sprint(k.files("/p")) != fmt.Sprint(was.files()) {
				q = is
			}
			k.again("P15.7", "/p", q)
		}
	}
}
