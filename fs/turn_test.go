package fs_test

import (
	"fmt"
	"testing"

	"bollard/api"
)

// changes are calls that are OK on a tree as grown makes it, of each kind.
func changes() []call {
	return []call{
		mkdir("/n"), mkdir("/d/e/n"), create("/n"), create("/d/n"), remove("/x"), remove("/d/y"), remove("/empty"), remove("/d/e/f"),
		rename("/x", "/n"), rename("/x", "/d/n"), rename("/d/y", "/x"), rename("/x", "/d/y"), rename("/d", "/n"), rename("/d/e", "/e"), rename("/empty", "/d/e/f/n"),
		write("/x", 0, fill(7, 600)), write("/x", 500, fill(8, 6000)), app("/x", fill(9, 1)), app("/d/y", fill(10, 3000)), app("/empty file", fill(1, 5120)),
		truncate("/x", 0), truncate("/x", 513), truncate("/x", 9000), truncate("/d/y", 5120), truncate("/empty file", 1),
	}
}

// grow makes a tree with files and directories of several kinds.
func grow() []call {
	return []call{
		mkdir("/d"), mkdir("/d/e"), mkdir("/d/e/f"), mkdir("/empty"), create("/empty file"),
		create("/x"), app("/x", fill(1, 1000)), create("/d/y"), app("/d/y", fill(2, 7000)), create("/gone"), app("/gone", fill(3, 9)), remove("/gone"),
	}
}

// grown is a file system with such a tree, and the plain one.
func grown(t *testing.T, n, inodes int) (*kit, *plain) {
	t.Helper()
	k := made(t, n, inodes)
	p := newPlain(k.f.Free())
	for _, c := range grow() {
		k.must("P10.2", c, c.onPlain(p))
	}
	k.is("P10.2", p.show())
	return k, p
}

// TestSingle: each call is done, for good, with OK.
func TestSingle(t *testing.T) {
	old, was := grown(t, 400, 20)
	for _, c := range changes() {
		k, p := old.fork(), was.clone()
		k.must("P10.2", c, ok)
		if e := c.onPlain(p); e != ok {
			t.Fatalf("%v = %d", c, e)
		}
		k.is("P10.2", p.show())
		mounted(t, k.d.Crash(nil)).is("P10.2", p.show())
	}
}

// TestBegin: Begin twice, Commit and Abort without a Begin.
func TestBegin(t *testing.T) {
	k := made(t, 400, 20)
	k.refuse("P10.2", commit(), state)
	k.refuse("P10.2", abort(), state)
	for _, end := range []call{commit(), abort()} {
		k.do(begin())
		k.refuse("P10.2", begin(), state)
		k.refuse("P10.2", begin(), state)
		k.do(end)
		k.refuse("P10.2", commit(), state)
		k.refuse("P10.2", abort(), state)
	}
}

// TestCommit: all calls up to Commit are one transaction; the calls within see it, others do not.
func TestCommit(t *testing.T) {
	old, was := grown(t, 400, 20)
	for _, first := range changes() {
		for _, second := range changes() {
			k, p := old.fork(), was.clone()
			ops := k.d.Ops()
			k.must("P10.2", begin(), p.begin())
			for _, c := range []call{first, second} {
				k.must("P10.2", c, c.onPlain(p))
				k.is("P10.4", p.show())
			}
			if k.d.Ops() != ops {
				t.Fatalf("P10.2: %v within a transaction wrote", second)
			}
			mounted(t, k.d.Crash(nil)).is("P10.2", was.show())
			k.must("P10.2", commit(), p.end(true))
			k.is("P10.2", p.show())
			mounted(t, k.d.Crash(nil)).is("P10.2", p.show())
		}
	}
}

// TestAbort: nothing since Begin has happened, also of what was undone by a call's error within.
func TestAbort(t *testing.T) {
	old, was := grown(t, 400, 20)
	for _, first := range changes() {
		for _, second := range changes() {
			k := old.fork()
			k.do(begin())
			first.on(k.f)
			second.on(k.f)
			k.do(abort())
			k.is("P10.2", was.show())
			third := was.clone()
			k.must("P10.2", first, first.onPlain(third))
			k.is("P10.2", third.show())
			mounted(t, k.d.Crash(nil)).is("P10.2", third.show())
		}
	}
}

// wrong are calls that are refused on a tree as grown makes it.
func wrong() []call {
	return []call{
		mkdir(""), create("x"), remove("/"), rename("/", "/a"), write("", 0, nil), app("/x/", nil), truncate("//", 0),
		mkdir("/q/r"), create("/x/y"), remove("/q"), rename("/q", "/x"), rename("/x", "/q/x"), write("/q", 0, nil), app("/d", nil), truncate("/x/y", 0),
		mkdir("/x"), create("/d"), create("/"), remove("/d"), rename("/x", "/d"), rename("/d", "/x"), rename("/d", "/d/n"),
		write("/x", 1001, nil), write("/x", -1, nil), truncate("/x", -1), truncate("/x", 70657), write("/x", 1000, fill(0, 70000)), app("/x", fill(0, 69657)), begin(),
	}
}

// TestErrorsWithin: errors within a transaction change nothing, and it goes on.
func TestErrorsWithin(t *testing.T) {
	old, was := grown(t, 400, 20)
	for _, change := range changes() {
		k, p := old.fork(), was.clone()
		k.must("P10.2", begin(), p.begin())
		k.must("P10.2", change, change.onPlain(p))
		for _, c := range wrong() {
			trial := p.clone()
			trial.began = p
			if want := c.onPlain(trial); want != ok { // else the change made it right
				k.refuse("P10.2", c, want)
			}
		}
		k.is("P10.2", p.show())
		k.must("P10.2", commit(), p.end(true))
		k.is("P10.2", p.show())
		mounted(t, k.d.Crash(nil)).is("P10.2", p.show())
	}
}

// TestFullWithin: a call that finds no room in its midst is undone wholly, and what was done ahead of it in the transaction is not.
func TestFullWithin(t *testing.T) {
	k := made(t, 250, 8)
	p := newPlain(1, 7)
	for _, c := range []call{
		begin(), create("/a"), app("/a", fill(0, 1)), mkdir("/b"), create("/b/c"), mkdir("/b/c"), rename("/a", "/b/a"), truncate("/a", 1),
		create("/c"), create("/d"), create("/e"), create("/f"), create("/g"), create("/h"), rename("/c", "/h"), create("/c"), remove("/b"), create("/c"), commit(),
	} {
		k.must("P10.5", c, c.onPlain(p))
		k.is("P10.5", p.show())
	}
	mounted(t, k.d.Crash(nil)).is("P10.5", p.show())
}

// TestNoOps: a transaction that changed nothing is committed without an op, off or not.
func TestNoOps(t *testing.T) {
	k, _ := grown(t, 400, 20)
	ops := k.d.Ops()
	k.do(begin(), commit(), begin(), abort(), begin())
	k.must("P10.2", create("/x"), exist)
	k.do(commit())
	if k.d.Ops() != ops {
		t.Errorf("P10.2: %d ops for nothing", k.d.Ops()-ops)
	}
	k.d.Cut(0)
	k.do(begin(), commit())
}

// tooGreat begins a transaction that does not fit, behind some calls that do.
func tooGreat(t *testing.T, k *kit) {
	t.Helper()
	k.do(begin(), create("/b"), app("/b", fill(1, 20000)), remove("/x"))
	k.must("P10.2", app("/b", fill(2, 20000)), big)
}

// TestTooGreat: all since Begin is undone at once; until its end all that changes answers ErrBig, whatever it is; Commit answers ErrBig.
func TestTooGreat(t *testing.T) {
	for _, end := range []struct {
		c    call
		want api.Errno
	}{{commit(), big}, {abort(), ok}} {
		k, p := grown(t, 700, 20)
		for range 3 {
			ops := k.d.Ops()
			tooGreat(t, k)
			k.is("P10.2", p.show())
			for _, c := range append(changes(), wrong()...) {
				want := big
				if c.name == "Begin" {
					want = state
				}
				k.refuse("P10.2", c, want)
			}
			k.must("P10.2", end.c, end.want)
			k.is("P10.2", p.show())
			if k.d.Ops() != ops {
				t.Errorf("P10.2: a transaction that was too great wrote")
			}
			k.refuse("P10.2", commit(), state)
			k.refuse("P10.2", abort(), state)
		}
		mounted(t, k.d.Crash(nil)).is("P10.2", p.show())
		for _, c := range []call{create("/b"), begin(), create("/c"), remove("/x"), commit()} {
			k.must("P10.2", c, c.onPlain(p))
		}
		k.is("P10.2", p.show())
		mounted(t, k.d.Crash(nil)).is("P10.2", p.show())
	}
}

// TestTooGreatAlone: a call that does not fit into a transaction of its own changes nothing, and the next one is done.
func TestTooGreatAlone(t *testing.T) {
	k, p := grown(t, 700, 20)
	for _, c := range []call{app("/x", fill(1, 40000)), write("/x", 5, fill(1, 40000)), truncate("/x", 70656), truncate("/empty file", 70656)} {
		k.refuse("P10.2", c, big)
	}
	for _, c := range []call{begin(), create("/n"), commit(), app("/x", fill(1, 9000)), create("/m")} {
		k.must("P10.2", c, c.onPlain(p))
	}
	k.is("P10.2", p.show())
}

// TestFileTooGreat: the ErrBig of a file that would be too great is not that of the transaction: it goes on.
func TestFileTooGreat(t *testing.T) {
	k, p := grown(t, 700, 20)
	for _, c := range []call{
		begin(), create("/n"), app("/x", fill(1, 69657)), write("/x", 1000, fill(1, 69657)), truncate("/x", 70657), app("/n", fill(2, 70657)), create("/m"), commit(),
	} {
		k.must("P10.2", c, c.onPlain(p))
	}
	k.is("P10.2", p.show())
	k.lists("P10.2", "/", "d", "empty", "empty file", "m", "n", "x")
}

// TestFileTooGreatAtTheBrim: the same in a transaction that has no room for a block any more.
func TestFileTooGreatAtTheBrim(t *testing.T) {
	k := made(t, 700, 20)
	k.do(create("/a"))
	most := 0
	for n := 40; n <= 60; n++ {
		c := k.fork()
		c.do(begin())
		if app("/a", fill(1, n*512)).on(c.f) == ok {
			most = n
		}
	}
	if most < 50 {
		t.Fatalf("P10.2: a transaction has room for %d blocks of a file alone", most)
	}
	k.do(begin(), app("/a", fill(1, most*512)))
	k.must("P10.2", app("/a", fill(1, 70656-most*512+1)), big)
	k.must("P10.2", truncate("/a", 70657), big)
	k.do(write("/a", 5, fill(3, 512)), commit())
	want := fill(1, most*512)
	copy(want[5:], fill(3, 512))
	k.holds("P10.2", "/a", want)
}

// TestManyWithin: P8.4's bounds are enough for the calls of a transaction: 24 blocks, of five inodes.
func TestManyWithin(t *testing.T) {
	k := made(t, 65536, 4096)
	p := newPlain(k.f.Free())
	k.must("P10.2", mkdir("/d"), p.create("/d", 2))
	for round := range 5 {
		k.must("P10.2", begin(), p.begin())
		for i := range 3 {
			path := fmt.Sprintf("/d/%d.%d", round, i)
			for _, c := range []call{create(path), app(path, fill(i, 6*512))} {
				k.must("P10.2", c, c.onPlain(p))
			}
		}
		k.must("P10.2", commit(), p.end(true))
		k.is("P10.2", p.show())
	}
}
