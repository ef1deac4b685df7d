package fs_test

import (
	"testing"

	"bollard/api"
	"bollard/fs"
)

// row is a step that does calls up to the first one that fails.
func row(f *fs.FS, l ...call) func() api.Errno {
	return func() api.Errno {
		for _, c := range l {
			if e := c.on(f); e != ok {
				return e
			}
		}
		return ok
	}
}

// together is calls that are done as one, on the plain tree.
func together(p *plain, l ...call) api.Errno {
	trial := p.clone()
	trial.began = p.began
	for _, c := range l {
		if e := c.onPlain(trial); e != ok {
			return e
		}
	}
	*p = *trial
	return ok
}

// rows are calls that belong together: some of them are refused in their midst.
func rows() [][]call {
	return [][]call{
		{},
		{create("/n"), app("/n", fill(1, 900))},
		{create("/n"), app("/n", fill(1, 900)), rename("/n", "/d/y"), mkdir("/m"), create("/m/o")},
		{create("/x")},
		{create("/n"), create("/n")},
		{mkdir("/n"), remove("/x"), create("/n/o"), create("/q/r")},
		{app("/x", fill(1, 3000)), rename("/d", "/n"), truncate("/x", -1)},
	}
}

// TestTogether: calls are a transaction of their own, and none of them has happened with an error.
func TestTogether(t *testing.T) {
	old, was := grown(t, 400, 20)
	for _, l := range rows() {
		k, p := old.fork(), was.clone()
		want := together(p, l...)
		if e := k.f.Together(row(k.f, l...)); e != want {
			t.Fatalf("P10.2: Together of %v = %d, want %d", l, e, want)
		}
		k.is("P10.2", p.show())
		mounted(t, k.d.Crash(nil)).is("P10.2", p.show())
		k.refuse("P10.2", commit(), state)
		if want == ok {
			law(t, old, func(f *fs.FS) api.Errno { return f.Together(row(f, l...)) }, was.show(), p.show())
		}
	}
}

// TestTogetherWithin: they are a part of a transaction that was begun; with an error what was done ahead of them is not undone.
func TestTogetherWithin(t *testing.T) {
	old, was := grown(t, 400, 20)
	for _, end := range []call{commit(), abort()} {
		k, p := old.fork(), was.clone()
		k.must("P10.2", begin(), p.begin())
		for i, l := range rows() {
			for _, c := range []call{create("/made " + string(rune('a'+i))), app("/x", fill(i, 9))} {
				k.must("P10.2", c, c.onPlain(p))
			}
			want := together(p, l...)
			if e := k.f.Together(row(k.f, l...)); e != want {
				t.Fatalf("P10.2: Together of %v within = %d, want %d", l, e, want)
			}
			k.is("P10.2", p.show())
			mounted(t, k.d.Crash(nil)).is("P10.2", was.show())
		}
		k.must("P10.2", end, p.end(end.name == "Commit"))
		k.is("P10.2", p.show())
		mounted(t, k.d.Crash(nil)).is("P10.2", p.show())
	}
}

// TestTogetherNested: the inner ones are undone alone, or with the outer ones.
func TestTogetherNested(t *testing.T) {
	k, p := grown(t, 400, 20)
	inner := func(want api.Errno, l ...call) func() api.Errno {
		return func() api.Errno {
			if e := k.f.Together(row(k.f, l...)); e != want {
				t.Errorf("P10.2: Together within Together = %d, want %d", e, want)
			}
			return ok
		}
	}
	e := k.f.Together(func() api.Errno {
		create("/a").on(k.f)
		inner(exist, create("/b"), create("/a"))()
		return inner(ok, create("/c"))()
	})
	together(p, create("/a"), create("/c"))
	if e != ok {
		t.Errorf("P10.2: Together = %d", e)
	}
	k.is("P10.2", p.show())
	e = k.f.Together(func() api.Errno {
		inner(ok, create("/e"))()
		return busy
	})
	if e != busy {
		t.Errorf("P10.2: Together = %d, want what its calls told", e)
	}
	k.is("P10.2", p.show())
}

// TestTogetherTooGreat: a transaction that has no room for them is aborted, its own or the one that was begun, whatever they tell.
func TestTogetherTooGreat(t *testing.T) {
	k, p := grown(t, 700, 20)
	for _, told := range []api.Errno{big, ok} {
		great := func() api.Errno {
			app("/x", fill(1, 20000)).on(k.f)
			k.must("P10.2", app("/x", fill(1, 20000)), big)
			return told
		}
		if e := k.f.Together(great); e != big {
			t.Errorf("P10.2: Together that is too great = %d, want ErrBig", e)
		}
		k.is("P10.2", p.show())
		k.do(begin(), create("/n"))
		if e := k.f.Together(great); e != told {
			t.Errorf("P10.2: Together within = %d, want %d", e, told)
		}
		k.is("P10.2", p.show())
		if e := k.f.Together(row(k.f, create("/m"))); e != big {
			t.Errorf("P10.2: Together behind it = %d, want ErrBig", e)
		}
		k.must("P10.2", commit(), big)
		k.is("P10.2", p.show())
	}
	if e := k.f.Together(row(k.f, create("/m"))); e != ok {
		t.Errorf("P10.2: Together = %d", e)
	}
}

// TestTogetherDead: where nothing can be changed, each call says so itself, and those that look tell.
func TestTogetherDead(t *testing.T) {
	l, was := dieds(t)
	for _, k := range l {
		if e := k.f.Together(row(k.f, create("/n"))); e != off {
			t.Errorf("P10.2: Together on a dead file system = %d, want ErrOff", e)
		}
		looked := k.f.Together(func() api.Errno {
			_, e := k.f.Stat("/x")
			return e
		})
		if looked != ok {
			t.Errorf("P10.2: who looks on a dead file system is told %d", looked)
		}
		k.is("P10.2", was)
	}
	for _, f := range []*fs.FS{nil, {}} {
		if e := f.Together(func() api.Errno { return ok }); e != off {
			t.Errorf("P10.7: Together on none = %d, want ErrOff", e)
		}
	}
}
