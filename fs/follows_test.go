package fs_test

import (
	"bytes"
	"fmt"
	"slices"
	"strings"
	"testing"

	"bollard/api"
	"bollard/fs"
)

// play does calls on a file system and on a plain tree, and holds them against each other; it tells how many transactions were too great.
func play(t *testing.T, seed, n, inodes, steps int, roll func(x *dice, p *plain) call) (bursts int) {
	t.Helper()
	x := dice(seed)
	k := made(t, n, inodes)
	p := newPlain(k.f.Free())
	for step := range steps {
		c := roll(&x, p)
		e, want := c.on(k.f), c.onPlain(p)
		if e == big && want == ok && p.mayBurst() {
			p.burst()
			bursts++
			want = big
		}
		if e != want {
			t.Fatalf("P10.8: seed %d, step %d: %v = %d, want %d", seed, step, c, e, want)
		}
		if step%5 == 0 {
			k.is("P10.8", p.show())
		}
		if p.began == nil && x.below(20) == 0 {
			k = mounted(t, k.d)
			k.is("P10.8", p.show())
		}
	}
	k.is("P10.8", p.show())
	return bursts
}

// TestPlays: a tree of names and bytes, with so many blocks and inodes; with little room and with much.
func TestPlays(t *testing.T) {
	for seed := range 40 {
		play(t, seed, 250+seed%3, 8, 300, roll)
		play(t, seed, 280, 12, 300, roll)
		play(t, seed, 1000, 64, 300, roll)
	}
	play(t, 1, 65536, 4096, 200, roll)
}

// TestGreatPlays: the same with transactions that become too great.
func TestGreatPlays(t *testing.T) {
	bursts := 0
	for seed := range 40 {
		bursts += play(t, seed, 2000, 100, 400, func(x *dice, p *plain) call {
			c := roll(x, p)
			switch {
			case p.began == nil && c.name != "Begin":
			case c.name == "Append":
				c.b = fill(x.below(200), x.below(9000))
			case (c.name == "Commit" || c.name == "Abort" || c.name == "Remove") && x.below(4) > 0:
				c = create("/" + fmt.Sprint(x.below(50)))
			}
			return c
		})
	}
	if bursts < 10 {
		t.Errorf("P10.2: %d transactions were too great, want more", bursts)
	}
}

// TestHandedIn: bytes that were handed in are not changed, their spare room neither, and may be overwritten.
func TestHandedIn(t *testing.T) {
	k := made(t, 400, 20)
	k.do(create("/a"))
	room := bytes.Repeat([]byte{0xaa}, 2000)
	b := room[:700:2000]
	copy(b, fill(1, 700))
	was := slices.Clone(room)
	k.do(begin(), app("/a", b), write("/a", 3, b))
	if !bytes.Equal(room, was) {
		t.Error("P10.8: what was handed in was changed")
	}
	want := over(fill(1, 700), 3, fill(1, 700))
	for i := range room {
		room[i] = 0xbb
	}
	k.holds("P10.8", "/a", want)
	k.do(commit())
	k.holds("P10.8", "/a", want)
	mounted(t, k.d).holds("P10.8", "/a", want)
}

// TestAnswered: what was answered may be overwritten without a change of the tree, or of another answer.
func TestAnswered(t *testing.T) {
	k, p := grown(t, 400, 20)
	for _, within := range []bool{false, true} {
		if within {
			k.do(begin(), write("/x", 2, fill(9, 30)))
			p.write("/x", 2, fill(9, 30))
		}
		one, _ := k.f.Read("/x", 0, 1000)
		other, _ := k.f.Read("/x", 0, 1000)
		want := slices.Clone(other)
		names, _ := k.f.List("/")
		others, _ := k.f.List("/")
		wanted := slices.Clone(others)
		for i := range one[:cap(one)] {
			one[:cap(one)][i] = 0xcc
		}
		for i := range names[:cap(names)] {
			names[:cap(names)][i] = "none"
		}
		if !bytes.Equal(other, want) || !slices.Equal(others, wanted) {
			t.Error("P10.8: two answers share memory")
		}
		k.is("P10.8", p.show())
	}
	k.do(commit())
	mounted(t, k.d).is("P10.8", p.show())
}

// TestApart: two file systems have nothing in common.
func TestApart(t *testing.T) {
	one, p := grown(t, 400, 20)
	two := made(t, 400, 20)
	two.is("P10.8", newPlain(149, 19).show())
	two.do(begin(), create("/x"), app("/x", fill(5, 50)))
	one.is("P10.8", p.show())
	one.must("P10.2", commit(), state)
	two.do(commit())
	one.do(remove("/x"))
	two.holds("P10.8", "/x", fill(5, 50))
}

// TestManyNames: names that are alike, in directories that are alike, are told apart.
func TestManyNames(t *testing.T) {
	k := made(t, 2000, 300)
	long := strings.Repeat("n", 49)
	for i := range 10 {
		d := fmt.Sprint("/d", i)
		k.do(mkdir(d))
		for j := range 10 {
			path := fmt.Sprint(d, "/", long, j)
			k.do(create(path), app(path, fill(i*10+j, i+j)))
		}
		k.do(create(d+"/"+long), create(d+"/n"))
	}
	for i := range 10 {
		for j := range 10 {
			k.holds("P10.8", fmt.Sprint("/d", i, "/", long, j), fill(i*10+j, i+j))
		}
		k.holds("P10.8", fmt.Sprint("/d", i, "/n"), nil)
	}
}

// TestNoFS: a nil or zero one refuses all with ErrOff, whatever it is handed.
func TestNoFS(t *testing.T) {
	var no *fs.FS
	for _, f := range []*fs.FS{no, {}} {
		for range 2 {
			for _, c := range append(append(changes(), wrong()...), begin(), commit(), abort(), begin(), begin(), commit()) {
				if e := c.on(f); e != off {
					t.Errorf("P10.7: %v = %d, want ErrOff", c, e)
				}
			}
		}
		for _, path := range []string{"/", "", "x", "/x", "/x/y"} {
			b, e := f.Read(path, -1, -1)
			s, g := f.Stat(path)
			l, h := f.List(path)
			if e != off || g != off || h != off || len(b) != 0 || s != (api.Stat{}) || len(l) != 0 {
				t.Errorf("P10.7: %q: Read = %v %d, Stat = %v %d, List = %v %d, want ErrOff", path, b, e, s, g, l, h)
			}
		}
		if b, i := f.Free(); b != 0 || i != 0 {
			t.Errorf("P10.7: Free = %d %d, want 0 0", b, i)
		}
	}
}
