package fs_test

import (
	"bytes"
	"fmt"
	"math"
	"testing"

	"bollard/api"
)

// TestWrite: at 0 to the size, over what is there and further.
func TestWrite(t *testing.T) {
	k := made(t, 700, 20)
	k.do(create("/a"))
	var want []byte
	for _, c := range []struct{ at, n int }{{0, 0}, {0, 1}, {1, 511}, {512, 1}, {0, 513}, {100, 1000}, {1100, 0}, {0, 1100}, {511, 2}, {1100, 4020}, {5120, 1}, {5000, 6000}, {3, 3}} {
		b := fill(c.at+c.n, c.n)
		k.do(write("/a", c.at, b))
		want = over(want, c.at, b)
		k.holds("P10.4", "/a", want)
	}
}

// TestAppend: at its size, however often.
func TestAppend(t *testing.T) {
	k := made(t, 700, 20)
	k.do(create("/a"))
	var want []byte
	for i, n := range []int{0, 1, 0, 511, 512, 1, 6000, 9000, 9000, 9000, 9000, 9000, 9000, 9000, 70656 - 70025, 0} {
		k.do(app("/a", fill(i, n)))
		want = append(want, fill(i, n)...)
		k.holds("P10.4", "/a", want)
	}
	k.refuse("P10.4", app("/a", []byte{1}), big)
	k.do(write("/a", 70655, []byte{9}))
}

// TestTruncate: it has so many bytes; what it grows by is 0.
func TestTruncate(t *testing.T) {
	k := made(t, 700, 20)
	k.do(create("/a"), app("/a", fill(1, 9000)))
	want := fill(1, 9000)
	for _, size := range []int{9000, 5121, 5120, 5119, 9000, 513, 512, 511, 512, 1, 600, 0, 0, 1} {
		k.do(truncate("/a", size))
		want = append(want, make([]byte, 9000)...)[:size]
		k.holds("P10.4", "/a", want)
	}
}

// TestBytesRefuse: 8's errors, in 8's order.
func TestBytesRefuse(t *testing.T) {
	k := made(t, 260, 4)
	k.do(create("/a"), app("/a", fill(1, 600)))
	for _, c := range []struct {
		c    call
		want api.Errno
	}{
		{write("/a", 601, nil), arg}, {write("/a", -1, nil), arg}, {write("/a", math.MaxInt, nil), arg}, {write("/a", math.MinInt, fill(0, 1)), arg}, {write("/a", 601, fill(0, 99999)), arg},
		{write("/a", 600, fill(0, 70057)), big}, {write("/a", 0, fill(0, 70657)), big}, {app("/a", fill(0, 70057)), big}, {app("/a", fill(0, 200000)), big},
		{truncate("/a", -1), arg}, {truncate("/a", math.MinInt), arg}, {truncate("/a", 70657), big}, {truncate("/a", math.MaxInt), big},
		{write("/a", 600, fill(0, 70056)), full}, {app("/a", fill(0, 70056)), full}, {truncate("/a", 70656), full}, {app("/a", fill(0, 10*512-600+1)), full}, {truncate("/a", 10*512+1), full},
	} {
		k.refuse("P10.4", c.c, c.want)
	}
	k.do(app("/a", fill(0, 10*512-600)))
}

// TestRead: from at on, n of them, or as many as there are.
func TestRead(t *testing.T) {
	k := made(t, 700, 20)
	all := fill(1, 6000)
	k.do(create("/a"), app("/a", all), create("/none"))
	for _, c := range []struct{ at, n, from, to int }{
		{0, 0, 0, 0}, {0, 1, 0, 1}, {0, 6000, 0, 6000}, {0, 6001, 0, 6000}, {0, math.MaxInt, 0, 6000}, {5999, 1, 5999, 6000}, {5999, 2, 5999, 6000}, {6000, 1, 0, 0}, {6001, 1, 0, 0},
		{math.MaxInt, math.MaxInt, 0, 0}, {1, math.MaxInt, 1, 6000}, {500, 100, 500, 600}, {511, 2, 511, 513}, {5119, 3, 5119, 5122}, {512, 512, 512, 1024},
	} {
		if b, e := k.f.Read("/a", c.at, c.n); e != ok || !bytes.Equal(b, all[c.from:c.to]) {
			t.Errorf("P10.4: Read(%d, %d) = %d bytes %d, want those from %d to %d", c.at, c.n, len(b), e, c.from, c.to)
		}
	}
	for _, c := range [][2]int{{-1, 1}, {0, -1}, {-1, -1}, {math.MinInt, math.MaxInt}, {math.MaxInt, math.MinInt}, {6001, -1}} {
		for _, path := range []string{"/a", "/none"} {
			if b, e := k.f.Read(path, c[0], c[1]); e != arg || len(b) != 0 {
				t.Errorf("P10.4: Read(%s, %d, %d) = %v %d, want ErrArg", path, c[0], c[1], b, e)
			}
		}
	}
	for path, want := range map[string]api.Errno{"/": kind, "/q": none, "/a/b": kind, "a": arg} {
		if _, e := k.f.Read(path, -1, -1); e != want {
			t.Errorf("P10.4: Read(%s, -1, -1) = %d, want %d", path, e, want)
		}
	}
}

// TestLook: Read, Stat and List of paths that lead to a file, a directory, through a file, to nothing.
func TestLook(t *testing.T) {
	k, _ := grown(t, 400, 20)
	k.none("P10.4", "/q", none, none, none)
	k.none("P10.4", "/q/r", none, none, none)
	k.none("P10.4", "/d/q", none, none, none)
	k.none("P10.4", "/x/r", kind, kind, kind)
	k.none("P10.4", "/x/r/s", kind, kind, kind)
	k.none("P10.4", "/d/y/r", kind, kind, kind)
	k.none("P10.4", "/d", kind, ok, ok)
	k.stat("P10.4", "/x", 1, 1000)
	k.stat("P10.4", "/d", 2, 128)
	k.stat("P10.4", "/empty", 2, 0)
	if l, e := k.f.List("/x"); e != kind || len(l) != 0 {
		t.Errorf("P10.4: List of a file = %v %d, want ErrKind", l, e)
	}
}

// TestList: names by rising bytes, whichever slots they stand in.
func TestList(t *testing.T) {
	k := made(t, 700, 200)
	var want []string
	for i := range 100 {
		want = append(want, fmt.Sprintf("n%02d", i))
	}
	for i := range 100 {
		k.do(create("/" + want[i*37%100]))
	}
	k.lists("P10.4", "/", want...)
	k.do(remove("/n50"), mkdir("/N"), create("/\xff"), create("/n"), create("/n0"))
	k.lists("P10.4", "/", append(append(append([]string{"N", "n", "n0"}, want[:50]...), want[51:]...), "\xff")...)
}

// TestLooksWrite nothing, and see what was done within a transaction, but not what was undone.
func TestLooksWrite(t *testing.T) {
	k, p := grown(t, 400, 20)
	ops := k.d.Ops()
	for _, c := range append([]call{begin()}, changes()...) {
		k.must("P10.4", c, c.onPlain(p))
		k.is("P10.4", p.show())
	}
	if k.d.Ops() != ops {
		t.Error("P10.4: who looks writes")
	}
	k.must("P10.4", abort(), p.end(false))
	k.is("P10.4", p.show())
}
