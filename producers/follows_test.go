package producers_test

import (
	"fmt"
	"strings"
	"testing"

	"bollard/producers"
)

// TestPlays: rows of calls, Opens, crashes and transactions, held against a map.
func TestPlays(t *testing.T) {
	for seed := range 40 {
		x := dice(seed)
		k := made(t, 400, 20)
		p, q := k.makes("/p"), plain{}
		for range 150 {
			producer, seq := x.below(75), x.below(6)-1
			switch x.below(12) {
			case 0:
				p = k.opens("/p")
			case 1:
				k = k.fork()
				p = k.opens("/p")
			case 2:
				p, q = k.turn(&x, p, q)
			case 3, 4, 5:
				k.checks("P16.2", p, q, producer, seq)
			default:
				k.accepts("P16.3", p, q, producer, seq, x.below(end))
			}
		}
		k.is("P16.4", p, q)
		k.again("P16.4", "/p", q)
	}
}

// turn is a transaction of some Accepts, that is committed or aborted.
func (k *kit) turn(x *dice, p *producers.Producers, q plain) (*producers.Producers, plain) {
	k.t.Helper()
	was := q.clone()
	k.do(k.f.Begin())
	for range x.below(6) {
		k.accepts("P16.3", p, q, x.below(75), x.below(6)-1, x.below(end))
	}
	k.is("P16.3", p, q)
	if x.below(2) == 0 {
		k.do(k.f.Commit())
		return p, q
	}
	k.do(k.f.Abort())
	return k.opens("/p"), was
}

// TestLastIsKnown: what a producer had accepted last is known, whoever else came behind it.
func TestLastIsKnown(t *testing.T) {
	for first := range room {
		k := made(t, 400, 20)
		p, q := k.makes("/p"), plain{}
		for i := range first {
			k.accepts("P16.4", p, q, 1000+i, i, i)
		}
		k.accepts("P16.4", p, q, 7, 3, 33)
		k.accepts("P16.4", p, q, 7, 4, 44)
		for i := first + 1; i < room+5; i++ {
			k.accepts("P16.4", p, q, 1000+i, i, i)
			k.accepts("P16.4", p, q, 1000+i/2, i, i)
		}
		told(t, p, 7, 4, 44, true, ok)
		told(t, p, 7, 5, 0, false, ok)
		told(t, k.opens("/p"), 7, 4, 44, true, ok)
		k.is("P16.4", p, q)
	}
}

// TestUnlike: of unlike producers nothing hangs on each other: each tells what it tells alone.
func TestUnlike(t *testing.T) {
	calls := func(n int) (l [][2]int) {
		x := dice(n)
		for i := range 5 + x.below(5) {
			l = append(l, [2]int{i / 2, x.below(end)})
		}
		return l
	}
	numbers := []int{1, 2, 3, 255, 256, 257, 1 << 16, 1<<16 + 1, 1 << 32, 1<<32 + 1, 1 << 62, most - 1, most}
	k := made(t, 400, 40)
	all := k.makes("/all")
	for i := range 10 {
		for _, n := range numbers {
			if l := calls(n); i < len(l) {
				k.do(all.Accept(n, l[i][0], l[i][1]))
			}
		}
	}
	for i, n := range numbers {
		alone := k.makes(fmt.Sprint("/alone", i))
		for _, c := range calls(n) {
			k.do(alone.Accept(n, c[0], c[1]))
		}
		for _, p := range []*producers.Producers{all, k.opens("/all")} {
			for seq := -1; seq < 10; seq++ {
				base, again, e := p.Check(n, seq)
				if b, a, code := alone.Check(n, seq); b != base || a != again || code != e {
					t.Errorf("P16.4: Check(%d, %d) = %d %v %d, alone %d %v %d", n, seq, base, again, e, b, a, code)
				}
			}
		}
	}
}

// TestApart: files of one file system, and of others, have nothing in common.
func TestApart(t *testing.T) {
	k, other := made(t, 400, 40), made(t, 400, 40)
	k.do(k.f.Mkdir("/d"))
	kits := map[string]*kit{"/a": k, "/b": k, "/d/a": k, "/o": other}
	lists, open := map[string]plain{}, map[string]*producers.Producers{}
	for path, kit := range kits {
		open[path], lists[path] = kit.makes(path), plain{}
	}
	x := dice(3)
	for i := range 100 {
		for j, path := range []string{"/a", "/b", "/d/a", "/o"} {
			kits[path].accepts("P16.4", open[path], lists[path], 1+x.below(20+20*j), i*j, 100*i+j)
		}
	}
	for path, kit := range kits {
		kit.is("P16.4", open[path], lists[path])
		kit.again("P16.4", path, lists[path])
	}
	k.do(k.f.Remove("/b"))
	k.again("P16.4", "/a", lists["/a"])
	k.again("P16.4", "/d/a", lists["/d/a"])
}

// TestLeavesOthers: neither Make nor Accept touches another file.
func TestLeavesOthers(t *testing.T) {
	k := made(t, 400, 20)
	k.do(k.f.Mkdir("/d"), k.f.Create("/d/x"), k.f.Append("/d/x", []byte(strings.Repeat("x", 3000))), k.f.Create("/y"))
	was := showAt(k.f, "/d") + showAt(k.f, "/y")
	k.knows("/p", room)
	if now := showAt(k.f, "/d") + showAt(k.f, "/y"); now != was {
		t.Errorf("P16.4: other files are\n%s\nwere\n%s", now, was)
	}
	if l, _ := k.f.List("/"); fmt.Sprint(l) != "[d p y]" {
		t.Errorf("P16.1: the names are %q", l)
	}
}
