package files_test

import (
	"fmt"
	"testing"

	"bollard/api"
	"bollard/fs"
)

// dice are numbers without a pattern, the same ones at each run.
type dice uint64

func (x *dice) below(n int) int {
	*x = *x*6364136223846793005 + 1442695040888963407
	return int(uint64(*x) >> 33 % uint64(n))
}

// plain is what a Table is to be, on a file system of its own: a list of paths and places.
type plain struct {
	f    *fs.FS
	open [api.MaxFDs]struct {
		taken bool
		path  string
		at    int
	}
}

func (p *plain) Open(path string, make bool) (int, api.Errno) {
	free := -1
	for fd := api.MaxFDs - 1; fd >= 0; fd-- {
		if !p.open[fd].taken {
			free = fd
		}
	}
	if free < 0 {
		return 0, big
	}
	s, e := p.f.Stat(path)
	if e == none && make {
		if e := p.f.Create(path); e != ok {
			return 0, e
		}
		s, e = p.f.Stat(path)
	}
	if e != ok {
		return 0, e
	}
	if s.Kind == 2 {
		return 0, kind
	}
	o := &p.open[free]
	o.taken, o.path, o.at = true, path, 0
	return free, ok
}

func (p *plain) has(fd int) bool {
	return fd >= 0 && fd < api.MaxFDs && p.open[fd].taken
}

// play is a call of both, told by the dice; what the two answered.
func play(x *dice, k *kit, p *plain) (call, got, want string) {
	fd, at, n := x.below(36)-2, x.below(700)-40, x.below(600)-20
	b := []byte(long(600)[:max(n, 0)])
	path := []string{"/a", "/b", "/d/a", "/d/b", "/d", "/", "/none/a", "x", "/a/b"}[x.below(9)]
	make := x.below(2) == 0
	is := p.has(fd)
	switch what := x.below(14); what {
	case 0, 1, 2:
		g, e := k.x.Open(path, make)
		w, c := p.Open(path, make)
		return fmt.Sprint("Open ", path, make), fmt.Sprint(g, e), fmt.Sprint(w, c)
	case 3:
		e, c := k.x.Close(fd), arg
		if is {
			p.open[fd].taken, c = false, ok
		}
		return fmt.Sprint("Close ", fd), fmt.Sprint(e), fmt.Sprint(c)
	case 4, 5:
		g, e := k.x.Read(fd, n)
		w, c := []byte(nil), arg
		if is {
			w, c = p.f.Read(p.open[fd].path, p.open[fd].at, n)
			p.open[fd].at += len(w)
		}
		return fmt.Sprint("Read ", fd, n), fmt.Sprintf("%q %d", g, e), fmt.Sprintf("%q %d", w, c)
	case 6, 7, 8:
		e, c := k.x.Write(fd, b), arg
		if is {
			if c = p.f.Write(p.open[fd].path, p.open[fd].at, b); c == ok {
				p.open[fd].at += len(b)
			}
		}
		return fmt.Sprint("Write ", fd, len(b)), fmt.Sprint(e), fmt.Sprint(c)
	case 9:
		e, c := k.x.Seek(fd, at), arg
		if is && at >= 0 {
			p.open[fd].at, c = at, ok
		}
		return fmt.Sprint("Seek ", fd, at), fmt.Sprint(e), fmt.Sprint(c)
	case 10:
		g, e := k.x.Pread(fd, at, n)
		w, c := []byte(nil), arg
		if is {
			w, c = p.f.Read(p.open[fd].path, at, n)
		}
		return fmt.Sprint("Pread ", fd, at, n), fmt.Sprintf("%q %d", g, e), fmt.Sprintf("%q %d", w, c)
	case 11:
		e, c := k.x.Pwrite(fd, at, b), arg
		if is {
			c = p.f.Write(p.open[fd].path, at, b)
		}
		return fmt.Sprint("Pwrite ", fd, at, len(b)), fmt.Sprint(e), fmt.Sprint(c)
	case 12:
		e, c := k.x.Append(fd, b), arg
		if is {
			c = p.f.Append(p.open[fd].path, b)
		}
		return fmt.Sprint("Append ", fd, len(b)), fmt.Sprint(e), fmt.Sprint(c)
	}
	return stir(x, k.f, p.f, path)
}

// stir changes the tree under the open files, or begins and ends transactions, on both.
func stir(x *dice, f, g *fs.FS, path string) (call, got, want string) {
	to := []string{"/a", "/b", "/d/a", "/d/b", "/e"}[x.below(5)]
	size := x.below(700)
	what := x.below(8)
	do := func(f *fs.FS) api.Errno {
		switch what {
		case 0:
			return f.Remove(path)
		case 1:
			return f.Mkdir(to)
		case 2, 3:
			return f.Rename(path, to)
		case 4:
			return f.Truncate(path, size)
		case 5:
			return f.Begin()
		case 6:
			return f.Commit()
		}
		return f.Abort()
	}
	return fmt.Sprint("stir ", what, path, to, size), fmt.Sprint(do(f)), fmt.Sprint(do(g))
}

// TestPlays: whatever is called in whatever order, a Table is what a list of paths and places is.
func TestPlays(t *testing.T) {
	codes := map[string]int{}
	for seed := range 12 {
		x := dice(seed)
		blocks, inodes := 254+seed, 4+seed
		k, twin := made(t, blocks, inodes), made(t, blocks, inodes)
		p := &plain{f: twin.f}
		k.do(k.f.Mkdir("/d"), p.f.Mkdir("/d"))
		for turn := range 1500 {
			call, got, want := play(&x, k, p)
			if got != want {
				t.Fatalf("P11.4: seed %d, turn %d: %s answered\n%s, want\n%s", seed, turn, call, got, want)
			}
			codes[want]++
			for fd := range api.MaxFDs {
				if p.has(fd) {
					k.tells("P11.2", fd, p.open[fd].at, ok)
				} else {
					k.tells("P11.2", fd, 0, arg)
				}
			}
		}
		if got, want := show(k.f), show(p.f); got != want {
			t.Fatalf("P11.4: seed %d: the file system is\n%s\nwant\n%s", seed, got, want)
		}
	}
	for _, e := range []api.Errno{ok, arg, full, none, kind} {
		if codes[fmt.Sprint(e)] == 0 {
			t.Errorf("no play came to the error %d", e)
		}
	}
}
