package producers_test

import (
	"encoding/binary"
	"fmt"
	"slices"
	"strings"
	"testing"

	"bollard/api"
	"bollard/producers"
)

// TestOpen: nobody, one, all but one, and all: they are known, and the file is no greater than it may be.
func TestOpen(t *testing.T) {
	for _, n := range []int{0, 1, 2, 20, 21, 22, 42, 43, 59, 60} {
		k := made(t, 400, 20)
		p, q := k.knows("/p", n)
		k.is("P16.3", p, q)
		k.still("P16.1", "Open", func() { k.again("P16.1", "/p", q) })
		if size := len(k.bytes("/p")); size > limit {
			t.Errorf("P16.1: the file of %d producers has %d bytes", n, size)
		}
		k.goesOn("P16.1", "/p", q)
	}
}

// TestOpenGreatest: the greatest numbers take no more bytes than there may be.
func TestOpenGreatest(t *testing.T) {
	k := made(t, 400, 20)
	p, q := k.makes("/p"), plain{}
	for i := range room {
		k.accepts("P16.3", p, q, most-i, most-i%3, end-i%5)
	}
	k.is("P16.3", p, q)
	k.again("P16.1", "/p", q)
	if size := len(k.bytes("/p")); size > limit {
		t.Errorf("P16.1: the file has %d bytes", size)
	}
}

// isBad must be a file that Open does not take, and leaves as it is.
func (k *kit) isBad(what string, b []byte) {
	k.t.Helper()
	k.lay("/bad", b)
	k.still("P16.1", "Open of "+what, func() {
		k.t.Helper()
		if p, e := producers.Open(k.f, "/bad"); p != nil || e != bad {
			k.t.Errorf("P16.1: Open of %s = %v %d, want ErrBad", what, p, e)
		}
	})
	k.do(k.f.Remove("/bad"))
}

// TestOpenOthers: files that others made.
func TestOpenOthers(t *testing.T) {
	k := made(t, 700, 20)
	for n := 1; n < 2100; n++ {
		if n > 100 && n%24 > 1 && n%16 != 0 && n%100 != 0 {
			continue
		}
		k.isBad(fmt.Sprint("text of ", n), []byte(strings.Repeat("some text. ", 200)[:n]))
		k.isBad(fmt.Sprint("noughts, ", n), make([]byte, n))
		k.isBad(fmt.Sprint("ones, ", n), slices.Repeat([]byte{255}, n))
	}
	k.isBad("the greatest file, of noughts", make([]byte, api.MaxFile))
	k.isBad("the greatest file, of text", []byte(strings.Repeat("text", api.MaxFile/4)))
	k.knows("/p", room)
	right := k.bytes("/p")
	for _, n := range []int{1, limit - len(right), limit - len(right) + 1, 8192, api.MaxFile - len(right)} {
		k.isBad(fmt.Sprint("noughts behind, ", n), append(slices.Clone(right), make([]byte, n)...))
		k.isBad(fmt.Sprint("the same again behind, ", n), append(slices.Clone(right), slices.Repeat(right, n/len(right)+1)[:n]...))
	}
}

// TestOpenNoBytes: of a file without bytes Open answers that nobody is known, or ErrBad; it is as it was.
func TestOpenNoBytes(t *testing.T) {
	k := made(t, 400, 20)
	k.lay("/empty", nil)
	k.makes("/p")
	if len(k.bytes("/p")) == 0 {
		k.is("P16.1", k.opens("/empty"), plain{})
	}
	k.tries("no bytes", "/empty")
}

// tries opens a file that may be wrong. Whatever is answered, no call panics; with ErrBad the file is as it was.
func (k *kit) tries(what, path string) {
	k.t.Helper()
	var p *producers.Producers
	var e api.Errno
	k.still("P16.1", "Open of "+what, func() { p, e = producers.Open(k.f, path) })
	switch {
	case e == bad && p == nil:
		return
	case e != ok || p == nil || p.Len() > room:
		k.t.Fatalf("P16.1: Open of %s = %v %d, of %d producers", what, p, e, p.Len())
	}
	known := p.Len()
	for _, n := range []int{least, 0, 1, 100, 101, 1 << 40, most} {
		if _, again, e := p.Check(n, 0); again && e != ok {
			k.t.Fatalf("P16.2: of %s: Check(%d, 0) = again, %d", what, n, e)
		}
		p.Check(n, most)
	}
	if e := p.Accept(98765, 4, 5); e != ok && (e != big || known < room) {
		k.t.Fatalf("P16.3: of %s: Accept = %d", what, e)
	} else if e != ok {
		return
	}
	if base, again, e := k.opens(path).Check(98765, 4); base != 5 || !again || e != ok {
		k.t.Fatalf("P16.3: of %s: what was accepted is %d %v %d", what, base, again, e)
	}
}

// TestOpenCut: what this package wrote, cut off at each byte.
func TestOpenCut(t *testing.T) {
	for _, n := range []int{0, 1, 2, room} {
		old := made(t, 400, 20)
		old.knows("/p", n)
		right := old.bytes("/p")
		for size := range right {
			if n == room && size%5 > 0 && size%24 > 1 {
				continue
			}
			k := old.fork()
			k.do(k.f.Truncate("/p", size))
			k.tries(fmt.Sprint(n, " producers, cut off to ", size), "/p")
		}
	}
}

// TestOpenBehind: what this package wrote, with something behind: it is not what this package writes.
func TestOpenBehind(t *testing.T) {
	for _, n := range []int{0, 1, 2, 59, room} {
		old := made(t, 400, 20)
		old.knows("/p", n)
		for v := range 256 {
			k := old.fork()
			k.do(k.f.Append("/p", []byte{byte(v)}))
			k.tries(fmt.Sprint(n, " producers, and the byte ", v), "/p")
		}
	}
}

// TestOpenChanged: what this package wrote, with each byte changed.
func TestOpenChanged(t *testing.T) {
	for _, n := range []int{1, 2, 3, room} {
		old := made(t, 400, 20)
		old.knows("/p", n)
		right := old.bytes("/p")
		for at, b := range right {
			for _, v := range []byte{b ^ 1, b ^ 128, 0, 255} {
				if n == room && at%7 != int(v%7) {
					continue
				}
				k := old.fork()
				k.do(k.f.Write("/p", at, []byte{v}))
				k.tries(fmt.Sprintf("%d producers, byte %d is %d", n, at, v), "/p")
			}
		}
	}
}

// rows are the bytes of a file: a producer, a seq and a base, and so on.
func rows(l ...uint64) (b []byte) {
	for _, n := range l {
		b = binary.BigEndian.AppendUint64(b, n)
	}
	return b
}

// TestOpenNumbers: numbers that may not be, and a producer that is there twice, are not what this package writes.
func TestOpenNumbers(t *testing.T) {
	k := made(t, 400, 20)
	const wrong = 1 << 63
	for _, l := range [][]uint64{
		{0, 0, 0}, {0, 5, 5}, {wrong, 0, 0}, {1<<64 - 1, 0, 0}, {1, wrong, 0}, {1, 1<<64 - 1, 0},
		{1, 0, end + 1}, {1, 0, most}, {1, 0, wrong}, {1, 0, 1<<64 - 1}, {1 << 56, 0, 1 << 56},
		{1, 0, 0, 1, 0, 0}, {1, 0, 0, 1, 1, 0}, {1, 0, 0, 2, 0, 0, 1, 1, 1}, {most, 0, 0, most, most, end},
	} {
		k.isBad(fmt.Sprint("the numbers ", l), rows(l...))
		k.isBad(fmt.Sprint("behind a right row the numbers ", l), rows(append([]uint64{7, 1, 2}, l...)...))
		k.isBad(fmt.Sprint("ahead of a right row the numbers ", l), rows(append(l, 7, 1, 2)...))
	}
	k.lay("/p", rows(9, 0, 0, 1, most, end, most, 1, 2))
	q := plain{9: {0, 0}, 1: {most, end}, most: {1, 2}}
	k.again("P16.1", "/p", q)
	k.goesOn("P16.1", "/p", q)
	var l []uint64
	for i := range room + 1 {
		l = append(l, uint64(i)+1, 0, 0)
	}
	k.isBad("one producer too many", rows(l...))
}

// TestOpenDead: on a file system whose device is off Open still tells what is known, and writes nothing.
func TestOpenDead(t *testing.T) {
	k := made(t, 400, 20)
	p, q := k.knows("/p", 3)
	k.d.Cut(0)
	k.fails(off, p.Accept(100, 0, 0), p.Accept(7, 0, 0))
	k.still("P16.1", "Open", func() { k.is("P16.1", k.opens("/p"), q) })
	k.refused("/q", off, none)
	k.refused("/", off, kind)
	k.refused("", off, arg)
}
