package segment_test

import (
	"bytes"
	"encoding/binary"
	"fmt"
	"slices"
	"testing"

	"bollard/api"
	"bollard/segment"
)

// keeps opens a file of those bytes, of which just the batches of l are left; opened again, nothing is cut off.
func (k *kit) keeps(what string, bytes []byte, base int, l []api.Batch) {
	k.t.Helper()
	const path = "/kept"
	k.lay(path, bytes)
	p := plain{base, l}
	open := func() {
		k.t.Helper()
		k.is("P14.1: "+what, k.opens(path, base), path, p)
	}
	if len(laid(k.t, l...)) == len(bytes) {
		k.still("P14.1: "+what, "Open of what has nothing to be cut off", open)
	}
	open()
	k.still("P14.1: "+what, "a second Open", open)
	k.goesOn(what, path, p)
	k.do(k.f.Remove(path))
}

// goesOn is a segment that is appended to behind Open, and opened behind that.
func (k *kit) goesOn(what, path string, p plain) {
	k.t.Helper()
	s := k.opens(path, p.base)
	b := timed(p.next(), 2, 77)
	want := p.append(b)
	k.appends("P14.2: "+what, s, b, want)
	k.is("P14.2: "+what, s, path, p)
	k.is("P14.1: "+what, k.opens(path, p.base), path, p)
}

func TestOpen(t *testing.T) {
	k := made(t, 400, 20)
	l := row()
	k.keeps("no bytes", nil, 5, nil)
	for n := range len(l) + 1 {
		k.keeps(fmt.Sprint(n, " batches"), laid(t, l[:n]...), 5, l[:n])
	}
	var many []api.Batch
	for i := range 200 {
		many = append(many, timed(i*3, 1+i%3, i))
	}
	k.keeps("many batches", laid(t, many...), 0, many)
	great := []api.Batch{sized(t, 0, 4000), sized(t, 1, 4055), sized(t, 9, 80), sized(t, 10, 1000)}
	k.keeps("great batches", laid(t, great...), 0, great)
}

// TestOpenFull: a file that has as many bytes as one may have.
func TestOpenFull(t *testing.T) {
	k := made(t, 700, 20)
	var l []api.Batch
	for i := range 17 {
		l = append(l, sized(t, i, 4000))
	}
	l = append(l, sized(t, 17, api.MaxFile-17*4000))
	p := plain{base: 0, l: l}
	k.lay("/s", laid(t, l...))
	s := k.opens("/s", 0)
	k.is("P14.1", s, "/s", p)
	k.still("P14.2", "Append to a file without room", func() { k.appends("P14.2", s, timed(18, 1, 1), big) })
	k.is("P14.2", s, "/s", p)
	k.do(k.f.Write("/s", 17*4000+20, []byte{0xaa}))
	p.l = l[:17]
	k.is("P14.1", k.opens("/s", 0), "/s", p)
}

// TestOpenCut: the last batch is cut off at each of its bytes.
func TestOpenCut(t *testing.T) {
	k := made(t, 400, 20)
	l := row()
	for _, n := range []int{1, 2, 4} {
		p, ahead := laid(t, l[:n]...), len(laid(t, l[:n-1]...))
		for end := ahead; end < len(p); end++ {
			k.keeps(fmt.Sprint("cut off at ", end), p[:end], 5, l[:n-1])
		}
	}
}

// TestOpenChanged: each byte of the last batch is changed. The sum does not tell of the Base: another one may stay, if it is not below what those ahead make.
func TestOpenChanged(t *testing.T) {
	k := made(t, 400, 20)
	l := row()[:2]
	p, ahead := laid(t, l...), len(laid(t, l[0]))
	stay := 0
	for at := ahead; at < len(p); at++ {
		for _, v := range []byte{1, 2, 8, 0x80, 0xff} {
			c := slices.Clone(p)
			c[at] ^= v
			want := slices.Clone(l)
			base := binary.BigEndian.Uint64(c[ahead:])
			want[1].Base = int(base)
			if at >= ahead+8 || base < 7 || base > last {
				want = want[:1]
			} else {
				stay++
			}
			k.keeps(fmt.Sprintf("byte %d ^ %x", at, v), c, 5, want)
		}
	}
	if stay < 10 {
		t.Errorf("the test's own changes left only %d batches", stay)
	}
}

// TestOpenChangedAhead: behind a batch that is none any more nothing stays, though it is right.
func TestOpenChangedAhead(t *testing.T) {
	k := made(t, 400, 20)
	l := row()
	for n := range l {
		p := laid(t, l...)
		p[len(laid(t, l[:n]...))+20] ^= 4
		k.keeps(fmt.Sprint("batch ", n, " changed"), p, 5, l[:n])
	}
}

// TestOpenTails: other bytes, or noughts, behind the last batch.
func TestOpenTails(t *testing.T) {
	k := made(t, 400, 20)
	l := row()
	right := laid(t, timed(400, 1, 1))
	for n := range len(l) + 1 {
		for _, size := range []int{1, 7, 8, 11, 12, 13, 16, 47, 48, 53, 511, 512, 513, 5000} {
			k.keeps("noughts", append(laid(t, l[:n]...), make([]byte, size)...), 5, l[:n])
			k.keeps("ones", append(laid(t, l[:n]...), bytes.Repeat([]byte{255}, size)...), 5, l[:n])
			tail := append(bytes.Repeat([]byte{7}, size), right...)
			k.keeps("a batch behind other bytes", append(laid(t, l[:n]...), tail...), 5, l[:n])
		}
	}
}

// TestOpenLengths: a length that tells too little, too much, or as much as it may.
func TestOpenLengths(t *testing.T) {
	k := made(t, 400, 20)
	l := row()
	for _, length := range []uint32{0, 1, 4, 35, 36, 37, 40, 42, 94, 5988, 5989, 1 << 16, 1 << 31, 1<<32 - 13, 1<<32 - 12, 1<<32 - 1} {
		p := laid(t, l...)
		at := len(laid(t, l[:2]...)) + 8
		if binary.BigEndian.Uint32(p[at:]) == length {
			t.Fatal("the test's own length is the right one")
		}
		binary.BigEndian.PutUint32(p[at:], length)
		k.keeps(fmt.Sprint("length ", length), p, 5, l[:2])
	}
}

// TestOpenBase: batches that are right, but that begin below what those ahead make, or below what Open was asked for.
func TestOpenBase(t *testing.T) {
	k := made(t, 400, 20)
	l := row()
	p := laid(t, l...)
	for _, base := range []int{0, 1, 4, 5} {
		k.keeps(fmt.Sprint("base ", base), p, base, l)
	}
	for _, base := range []int{6, 7, 9, 10, 200, 1000, last} {
		k.keeps(fmt.Sprint("base ", base), p, base, nil)
	}
	for _, x := range []struct {
		next, keep int
	}{{0, 1}, {4, 1}, {5, 1}, {6, 1}, {7, 3}, {8, 3}, {9, 2}, {199, 2}, {last, 2}} {
		m := []api.Batch{timed(5, 2, 30, 20), timed(x.next, 1, 1), timed(9, 4, 4)}
		k.keeps(fmt.Sprint("second base ", x.next), laid(t, m...), 5, m[:x.keep])
	}
	twice := []api.Batch{l[0], l[0]}
	k.keeps("the same batch twice", laid(t, twice...), 5, twice[:1])
	turned := []api.Batch{l[1], l[0], l[2]}
	k.keeps("the second one first", laid(t, turned...), 5, turned[:1])
	edge := []api.Batch{timed(last-1, 1, 1), timed(last, 100, 1), timed(last, 1, 1)}
	k.keeps("the greatest Base", laid(t, edge...), last, nil)
	k.keeps("up to the greatest Base", laid(t, edge...), 0, edge[:2])
	k.keeps("the greatest Base alone", laid(t, edge[1:]...), last, edge[1:2])
	gap := []api.Batch{timed(5, 100, 1), timed(104, 1, 1)}
	k.keeps("within the Span, behind the records", laid(t, gap...), 5, gap[:1])
}

// TestOpenOften: Opens with a higher and higher base take what is below it for good.
func TestOpenOften(t *testing.T) {
	k := made(t, 400, 20)
	_, p := k.full("/s")
	k.is("P14.1", k.opens("/s", 0), "/s", plain{0, p.l})
	k.is("P14.1", k.opens("/s", 6), "/s", plain{base: 6})
	k.is("P14.1", k.opens("/s", 0), "/s", plain{base: 0})
	k.is("P14.1", mounted(t, k.d.Crash(nil)).opens("/s", 0), "/s", plain{base: 0})
}

// TestOpenPowerGone: where there is something to be cut off, the error of cutting it is told; else nothing is needed.
func TestOpenPowerGone(t *testing.T) {
	l := row()
	for cut := 0; ; cut++ {
		k := made(t, 400, 20)
		k.full("/s")
		tail := append(laid(t, l...), 1, 2, 3)
		k.lay("/tail", tail)
		k.d.Cut(cut)
		s, e := segment.Open(k.f, "/tail", 5)
		if e == ok {
			if cut == 0 {
				t.Error("P14.1: Open cuts off without the device")
			}
			break
		}
		if s != nil || e != off {
			t.Fatalf("P14.1: Open cut at op %d = %v %d, want ErrOff", cut, s, e)
		}
		if s, e := segment.Open(k.f, "/tail", 5); s != nil || e != off {
			t.Fatalf("P14.1: Open on a dead file system = %v %d, want ErrOff", s, e)
		}
		k.is("P14.1", k.opens("/s", 5), "/s", plain{5, l})
		again := mounted(t, k.d.Crash([]int{1, cut, 1}))
		if p := again.bytes("/tail"); !bytes.Equal(p, tail) && !bytes.Equal(p, laid(t, l...)) {
			t.Fatalf("P14.1: Open cut at op %d left %d bytes", cut, len(p))
		}
		again.is("P14.1", again.opens("/tail", 5), "/tail", plain{5, l})
	}
}

// TestOpenPlays: any bytes, of pieces of right batches and others, are the batches that they begin with.
func TestOpenPlays(t *testing.T) {
	k := made(t, 400, 20)
	x := dice(1)
	for range 300 {
		base := x.below(20)
		p := plain{base: base}
		var b []byte
		for range x.below(6) {
			one := x.batch(p.next() + x.below(3))
			p.l = append(p.l, one)
			b = append(b, laid(t, one)...)
		}
		switch x.below(4) {
		case 0:
			b = append(b, x.text(100)...)
		case 1:
			if p.next() > 0 {
				b = append(b, laid(t, x.batch(x.below(p.next())), x.batch(1000))...)
			}
		case 2:
			one := laid(t, x.batch(p.next()))
			one[8+x.below(len(one)-8)] ^= byte(1 + x.below(255))
			b = append(b, one...)
		}
		k.keeps("a play", b, base, p.l)
	}
}
