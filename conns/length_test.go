package conns_test

import (
	"bytes"
	"slices"
	"testing"

	"bollard/api"
)

// wrongLengths are those that may not be.
func wrongLengths() []uint32 {
	return []uint32{maxFrame + 1, maxFrame + 2, 9000, 1 << 14, 1 << 16, 1<<16 + 1, 1 << 24, 1<<31 - 1, 1 << 31, 1<<31 + 1, 1<<32 - 1}
}

// TestLengths: a length that may not be closes that connection alone: the frames ahead of it are answered, and nothing behind it is done.
func TestLengths(t *testing.T) {
	old := stock(t)
	for _, n := range wrongLengths() {
		for _, row := range [][]byte{
			length(n),
			append(length(n), asked(create("x", 1))...),
			append(asked(create("b", 1)), length(n)...),
			slices.Concat(asked(every()...), length(n), asked(create("x", 1), remove("s"))),
			slices.Concat(framed(), framed(9, 9), asked(create("b", 1)), length(n), length(n), framed(9)),
			slices.Concat(asked(topics()), length(n), make([]byte, 20000)),
		} {
			k := old.fork(3)
			half := asked(create("half", 2))
			k.feeds("P22.3", 2, 0, half[:len(half)-3])
			k.feeds("P22.1", 1, 0, row)
			k.shut(1)
			k.asks("P22.3", 0, 0, topics(), create("other", 1))
			k.feeds("P22.3", 2, 0, half[len(half)-3:])
			k.is("P22.3")
			k.goesOn("P22.3")
			k.shut(1)
		}
	}
}

// shut must be a connection that was closed.
func (k *kit) shut(conn int) {
	k.t.Helper()
	ops := k.d.Ops()
	for _, p := range [][]byte{nil, {0}, framed(9), asked(create("x", 1)), length(1 << 31)} {
		if got, e := k.c.Feed(conn, p, 0); got != nil || e != none {
			k.t.Fatalf("P22.1: Feed of the closed connection %d = %x %d, want ErrNone", conn, got, e)
		}
	}
	if !k.c.Closed(conn) || k.c.Dead() || k.d.Ops() != ops {
		k.t.Fatalf("P22.1: Closed(%d) = %v, Dead %v, %d ops", conn, k.c.Closed(conn), k.c.Dead(), k.d.Ops()-ops)
	}
}

// TestCutLengths: a wrong length whose four bytes come in pieces closes with the last of them.
func TestCutLengths(t *testing.T) {
	k := stock(t)
	for _, n := range wrongLengths() {
		for one := range 5 {
			for two := one; two < 5; two++ {
				b := length(n)
				conn := k.opens("P22.1")
				k.feeds("P22.1", conn, 0, asked(topics()), b[:one], nil, b[one:two], nil, b[two:])
				k.shut(conn)
			}
		}
	}
	k.is("P22.3")
}

// TestSizes: frames of no byte, of one, and of up to MaxFrame bytes are answered, requests too.
func TestSizes(t *testing.T) {
	k := stock(t)
	for _, n := range []int{0, 1, 2, 4, 5, 8, 100, maxFrame - 1, maxFrame} {
		b := bytes.Repeat([]byte{7}, n)
		k.feeds("P22.1", 0, 0, framed(b...), slices.Concat(framed(b...), framed(b...), asked(topics())))
	}
	for _, n := range []int{maxFrame - 2, maxFrame - 1, maxFrame} {
		spare := n - len(laidRequest(fetch("", 0, 0, 1)))
		k.asks("P22.1", 0, 0, fetch(long(spare), 0, 0, 1))
		r := add("a", 0, 0, 0, rec("k", long(1800), 1), rec("k", long(1800), 1), rec("k", long(1800), 1), rec("k", long(1800), 1), rec("k", "", 1))
		for i := range r.Records {
			r.Records[i].Val += long(min(200, n-len(laidRequest(r))))
		}
		if size := len(laidRequest(r)); size != n {
			t.Fatalf("the test's own request has %d bytes, not %d", size, n)
		}
		k.asks("P22.1", 0, 0, r)
		k.feeds("P22.1", 0, 0, slices.Concat(asked(r, r, topics()), asked(r)[:n], asked(r)[n:]))
	}
	if k.c.Closed(0) {
		t.Errorf("P22.1: frames of up to %d bytes close", maxFrame)
	}
	k.is("P22.1")
	k.goesOn("P22.1")
}

// TestGreatAnswers: an answer of just MaxFrame bytes is told; instead of one that is greater ErrBig is, and the connection goes on.
func TestGreatAnswers(t *testing.T) {
	k := made(t, 2000, 100)
	k.opens("P22.1")
	room := maxFrame - len(laidResponse(api.Response{Kind: 5}))
	for i, more := range []int{-1, 0, 1, 2, 300, 2800} {
		name := string(rune('a' + i))
		k.asks("P22.1", 0, 0, create(name, 1), add(name, 0, 0, 0, sized(5000)...), add(name, 0, 3, 0, sized(room+more-5000)...))
		want := ok
		if more > 0 {
			want = big
		}
		for _, id := range []int{0, 77, 1<<32 - 1} {
			r := fetch(name, 0, 0, 100000)
			r.ID = id
			got := k.feeds("P22.1", 0, 0, asked(r))
			if want == ok && len(got) != 4+maxFrame+more {
				t.Fatalf("P22.1: an answer of %d bytes has %d", maxFrame+more, len(got)-4)
			}
			if want == big && !bytes.Equal(got, told(api.Response{Kind: 5, ID: id, Code: big})) {
				t.Fatalf("P22.1: an answer of %d bytes is told by %s", maxFrame+more, short(got))
			}
			k.feeds("P22.1", 0, 0, slices.Concat(asked(r, topics()), framed(9), asked(r, fetch(name, 0, 0, 1), r, create(name, 1))))
		}
		k.asks("P22.1", 0, 0, fetch(name, 0, 0, room-1), fetch(name, 0, 0, room), fetch(name, 0, 0, room+1), fetch(name, 0, 1, most))
	}
	for range 20 { // many times too great
		k.asks("P22.1", 0, 0, add("a", 0, 0, 0, sized(6000)...), fetch("a", 0, 0, most), fetch("a", 0, 2, 8000), topics())
	}
	k.is("P22.1")
	k.goesOn("P22.1")
}
