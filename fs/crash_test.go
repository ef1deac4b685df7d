package fs_test

import (
	"fmt"
	"testing"

	"bollard/api"
	"bollard/device"
	"bollard/fs"
)

// picks are what crashes choose: nothing, all, and some of what is pending.
func picks() [][]int {
	every := make([]int, 300)
	for i := range every {
		every[i] = 1
	}
	return [][]int{nil, every, {1}, {0, 1}, {0, 0, 1, 0, 1, 1, 0, 1}, {2, -1, 0, 3, 1, 0, 1, 1, 1, 1}}
}

// crashed is what is left where Mount is cut and crashes again and again, and is OK at last.
func crashed(t *testing.T, d *device.Device, pick []int, cuts ...int) *kit {
	t.Helper()
	d = d.Crash(pick)
	for _, c := range cuts {
		d.Cut(c)
		if f, e := fs.Mount(d); (f == nil) != (e == off) || e != ok && e != off {
			t.Fatalf("P10.6: Mount that is cut behind %d ops = %v %d", c, f, e)
		}
		d = d.Crash(pick)
	}
	return mounted(t, d)
}

// law holds one call, cut at each of its ops, against the law of crashes: was is the file system ahead of it, is behind it.
func law(t *testing.T, old *kit, do func(f *fs.FS) api.Errno, was, is string) {
	t.Helper()
	whole := old.fork()
	ops := whole.d.Ops()
	if e := do(whole.f); e != ok {
		t.Fatalf("P10.6: the call = %d", e)
	}
	ops = whole.d.Ops() - ops
	seen := [2]int{}
	for cut := range ops + 1 {
		k := old.fork()
		k.d.Cut(cut)
		e := do(k.f)
		if want := map[bool]api.Errno{true: off, false: ok}[cut < ops]; e != want {
			t.Fatalf("P10.6: cut behind %d of %d ops, it answers %d, want %d", cut, ops, e, want)
		}
		for i, pick := range picks() {
			got := show(crashed(t, k.d, pick, []int{0, 1, 0, 2}[:i%5]...).f)
			switch {
			case got == is:
				seen[1]++
			case got == was && e == off:
				seen[0]++
			default:
				t.Fatalf("P10.6: cut behind %d of %d ops, it answers %d, the file system is\n%s\nwant\n%s\nor\n%s", cut, ops, e, got, was, is)
			}
		}
	}
	if ops > 0 && was != is && (seen[0] == 0 || seen[1] == 0) {
		t.Errorf("the cuts left all %d times, nothing %d times", seen[1], seen[0])
	}
}

// TestCutCalls: each call that changes something, cut at each of its ops, with the journal's slots as full as they may be.
func TestCutCalls(t *testing.T) {
	old, p := grown(t, 400, 20)
	for ahead := range 5 {
		if ahead > 0 {
			c := write("/x", 0, fill(ahead, 9))
			old.must("P10.6", c, c.onPlain(p))
		}
		for _, c := range changes() {
			q := p.clone()
			if e := c.onPlain(q); e != ok {
				t.Fatalf("%v = %d", c, e)
			}
			law(t, old, c.on, p.show(), q.show())
		}
	}
}

// TestCutTransactions: a transaction of several calls is done wholly or not at all.
func TestCutTransactions(t *testing.T) {
	old, p := grown(t, 400, 20)
	for i, l := range [][]call{
		{create("/n"), app("/n", fill(1, 3000)), rename("/n", "/d/y"), mkdir("/m"), create("/m/o")},
		{remove("/x"), remove("/d/y"), create("/x"), app("/x", fill(4, 7000))},
		{rename("/d", "/empty/d"), create("/empty/d/n"), truncate("/x", 7), create("/x/y"), remove("/q")},
		{create("/n"), remove("/n")},
	} {
		q := p.clone()
		for _, c := range l {
			c.onPlain(q)
		}
		law(t, old, func(f *fs.FS) api.Errno {
			f.Begin()
			for _, c := range l {
				c.on(f)
			}
			return f.Commit()
		}, p.show(), q.show())
		if i == 3 && p.show() != q.show() {
			t.Error("P10.6: made and gone is not nothing")
		}
	}
}

// TestCutAbort: what is aborted, or too great, no crash brings.
func TestCutAbort(t *testing.T) {
	k, p := grown(t, 700, 20)
	k.do(begin(), create("/n"), remove("/x"), abort())
	tooGreat(t, k)
	k.must("P10.2", commit(), big)
	for _, pick := range picks() {
		crashed(t, k.d, pick, 0, 1).is("P10.6", p.show())
	}
	k.do(begin(), create("/n"), remove("/x"))
	for _, pick := range picks() {
		crashed(t, k.d, pick, 0, 1).is("P10.6", p.show())
	}
}

// TestCutRows: rows of calls, cut at any op: all that were OK, in order, and the one that was cut off, wholly or not at all.
func TestCutRows(t *testing.T) {
	row := append(grow(), mkdir("/n"), rename("/d/y", "/n/y"), app("/n/y", fill(5, 9000)), rename("/x", "/n/y"), remove("/d/e/f"), rename("/d", "/n/d"), truncate("/n/y", 1), remove("/empty"))
	p := newPlain(50, 11)
	want := []string{p.show()}
	for _, c := range row {
		if c.onPlain(p) != ok {
			t.Fatalf("%v", c)
		}
		want = append(want, p.show())
	}
	want = append(want, want[len(row)])
	for cut := 0; ; cut++ {
		k := made(t, 300, 12)
		k.d.Cut(cut)
		done := 0
		for done < len(row) && row[done].on(k.f) == ok {
			done++
		}
		k.is("P10.2", want[done])
		pick := picks()[cut%6]
		got := show(crashed(t, k.d, pick, []int{cut % 3, 0, cut % 2}[:cut%4]...).f)
		if got != want[done] && got != want[done+1] {
			t.Fatalf("P10.6: cut behind %d ops, %d calls done, the file system is\n%s\nwant\n%s\nor\n%s", cut, done, got, want[done], want[done+1])
		}
		if done == len(row) {
			return
		}
		goOn(t, k, row, done, got == want[done+1], want[len(row)], pick)
	}
}

// goOn does the rest of a row behind a crash: the file system is one like any other.
func goOn(t *testing.T, k *kit, row []call, done int, more bool, want string, pick []int) {
	t.Helper()
	if more {
		done++
	}
	k = crashed(t, k.d, pick)
	k.do(row[done:]...)
	k.is("P10.6", want)
}

// dieds are file systems whose device was cut within a call, at several ops.
func dieds(t *testing.T) (l []*kit, was string) {
	old, p := grown(t, 400, 20)
	for cut := range 5 {
		alone := old.fork()
		alone.d.Cut(cut)
		alone.must("P10.2", app("/x", fill(3, 900)), off)
		begun := old.fork()
		begun.do(begin(), create("/n"), rename("/x", "/d/y"))
		begun.d.Cut(cut)
		begun.must("P10.2", commit(), off)
		l = append(l, alone, begun)
	}
	return l, p.show()
}

// TestDead: behind an ErrOff all that changes answers ErrOff, whatever it is handed, whether the power comes back or not; what is told is as it was.
func TestDead(t *testing.T) {
	l, was := dieds(t)
	for _, k := range l {
		for range 2 {
			k.is("P10.2", was)
			for _, c := range append(changes(), wrong()...) {
				k.refuse("P10.2", c, off)
			}
			k.refuse("P10.2", rename("/x", "/x"), off)
			k.refuse("P10.2", app("/x", nil), off)
			k.refuse("P10.2", commit(), state)
			k.refuse("P10.2", abort(), state)
			k.is("P10.2", was)
			k.d.Cut(1000)
		}
	}
}

// TestBackAgain: where the power comes back without a crash, Mount tells all or nothing of what was cut, and no crash behind it tells otherwise.
func TestBackAgain(t *testing.T) {
	old, p := grown(t, 400, 20)
	for _, c := range changes() {
		q := p.clone()
		c.onPlain(q)
		for cut := range 12 {
			k := old.fork()
			k.d.Cut(cut)
			e := c.on(k.f)
			k.d.Cut(1000)
			k = mounted(t, k.d)
			got := show(k.f)
			if got != q.show() && (got != p.show() || e == ok) {
				t.Fatalf("P10.1: %v, cut behind %d ops = %d, then the file system is\n%s", c, cut, e, got)
			}
			for _, pick := range picks() {
				crashed(t, k.d, pick, 0, 1).is("P10.1", got)
			}
		}
	}
}

// TestOffNotDead: a device that is off refuses what needs it, behind all other errors; what looks tells as ever.
func TestOffNotDead(t *testing.T) {
	old, p := grown(t, 400, 20)
	for _, c := range wrong() {
		k := old.fork()
		k.d.Cut(0)
		if c.name == "Begin" {
			continue
		}
		k.refuse("P10.2", c, c.onPlain(p))
		k.is("P10.4", p.show())
		k.must("P10.2", create("/n"), off)
	}
}

// TestCutMany: plays of calls with cuts, on a device with little room.
func TestCutMany(t *testing.T) {
	for seed := range 60 {
		x := dice(seed)
		k := made(t, 270, 12)
		p := newPlain(k.f.Free())
		for range 6 {
			k.d.Cut(x.below(60))
			last := p.clone()
			for {
				c := roll(&x, p)
				if c.name == "Begin" || c.name == "Commit" || c.name == "Abort" {
					continue
				}
				last = p.clone()
				e, want := c.on(k.f), c.onPlain(p)
				if e == off {
					break
				}
				if e != want {
					t.Fatalf("P10.3: %v = %d, want %d", c, e, want)
				}
			}
			pick := make([]int, 20)
			for i := range pick {
				pick[i] = x.below(3)
			}
			k = crashed(t, k.d, pick, []int{0, 1, 2}[:x.below(4)]...)
			switch got := show(k.f); got {
			case p.show():
			case last.show():
				p = last
			default:
				t.Fatalf("P10.6: seed %d: the file system is\n%s\nwant\n%s\nor\n%s", seed, got, last.show(), p.show())
			}
		}
	}
}

// roll is a call: mostly of paths that lead somewhere, or nearly.
func roll(x *dice, p *plain) call {
	l := p.paths()
	path := func() string {
		at := l[x.below(len(l))]
		if x.below(3) == 0 {
			if at == "/" {
				at = ""
			}
			at += "/" + []string{"a", "b", "c", "d"}[x.below(4)]
		}
		return at
	}
	n := []int{0, 1, 60, 511, 512, 513, 1500, 3000, 5200}[x.below(9)]
	switch x.below(12) {
	case 0:
		return mkdir(path())
	case 1, 2:
		return create(path())
	case 3:
		return remove(path())
	case 4, 5:
		return rename(path(), path())
	case 6:
		return write(path(), n, fill(x.below(200), x.below(900)))
	case 7:
		return app(path(), fill(x.below(200), n))
	case 8:
		return truncate(path(), n)
	case 9:
		return begin()
	case 10:
		return commit()
	}
	if x.below(3) > 0 {
		return create("/" + fmt.Sprint(x.below(20)))
	}
	return abort()
}
