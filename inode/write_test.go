package inode_test

import (
	"bytes"
	"math"
	"slices"
	"testing"

	"bollard/api"
)

// edges are sizes and places at which something begins or ends: bytes, blocks, the blocks without a block of numbers, the greatest file.
func edges() []int {
	return []int{
		0, 1, 2, 63, 64, 510, 511, 512, 513, 1023, 1024, 1025, 4607, 4608, 4609, 5119, 5120, 5121, 5631, 5632, 5633, 6000,
		65535, 65536, 65537, 70143, 70144, 70145, 70655, 70656,
	}
}

// fileOf is a kit with the file 1 of so many bytes, which is committed.
func fileOf(t *testing.T, size int) (*kit, []byte) {
	t.Helper()
	k := made(t, 600, 12)
	k.step(func() { k.make(1, 1) })
	b := text(7, size)
	k.grow(1, b)
	return k, b
}

// grow writes bytes behind a file's end, in transactions that are small enough.
func (k *kit) grow(i int, b []byte) {
	k.t.Helper()
	st, _ := k.s.Stat(i)
	for at := 0; at < len(b); at += 10000 {
		k.step(func() { k.write(i, st.Size+at, b[at:min(at+10000, len(b))]) })
	}
}

// TestRead: the bytes from at on, n of them, or as many as there are, at every edge.
func TestRead(t *testing.T) {
	for _, size := range edges() {
		k, b := fileOf(t, size)
		k.holds(1, b)
		for _, at := range append(edges(), size-1, size, size+1, size+512, math.MaxInt-1, math.MaxInt) {
			for _, n := range append(edges(), size, size-at, size-at+1, math.MaxInt-size, math.MaxInt-1, math.MaxInt) {
				if at < 0 || n < 0 {
					continue
				}
				from := min(at, size)
				k.read(1, at, n, b[from:from+min(n, size-from)])
			}
		}
	}
}

// TestReadRefused: ErrNone of what is none, then ErrArg of an at or an n below 0.
func TestReadRefused(t *testing.T) {
	for _, size := range []int{0, 5, 512, 6000} {
		k, b := fileOf(t, size)
		below := []int{-1, -2, -512, math.MinInt, math.MinInt + 1}
		for _, x := range below {
			for _, y := range append(below, 0, 1, size, math.MaxInt) {
				k.noRead(1, x, y, api.ErrArg)
				k.noRead(1, y, x, api.ErrArg)
			}
		}
		for _, i := range append(noNumbers(), 2, 3, 11) {
			for _, x := range append(below, 0, 1, math.MaxInt) {
				k.noRead(i, x, 0, api.ErrNone)
				k.noRead(i, 0, x, api.ErrNone)
				k.noRead(i, x, x, api.ErrNone)
			}
		}
		k.noRead(0, -1, 0, api.ErrArg)
		k.read(0, 0, 5, nil)
		k.holds(1, b)
	}
}

// lay is b with some bytes at a place, growing where they go further.
func lay(b []byte, at int, more []byte) []byte {
	b = slices.Clone(b)
	n := copy(b[at:], more)
	return append(b, more[n:]...)
}

// cut is b with another size; what it grows by is 0.
func cut(b []byte, size int) []byte {
	if size <= len(b) {
		return slices.Clone(b[:size])
	}
	return append(slices.Clone(b), make([]byte, size-len(b))...)
}

// TestWriteAtEdges: b stands there, all else is as it was, and the file grows where b goes further.
func TestWriteAtEdges(t *testing.T) {
	for _, size := range []int{0, 1, 511, 512, 513, 5119, 5120, 5121, 5633, 60000} {
		k, b := fileOf(t, size)
		all := k.p.DataCount
		for _, at := range append(edges(), size-1, size) {
			if at < 0 || at > size {
				continue
			}
			for _, end := range append(edges(), at, at+1, at+511, at+512, at+513, size, size+1) {
				// Greater ones would not have room in a transaction.
				if end < at || end-at > 12000 || end > api.MaxFile {
					continue
				}
				more := text(at+end, end-at)
				want := lay(b, at, more)
				k.begin()
				k.write(1, at, more)
				k.holds(1, want)
				k.free(all-has(len(want)), 10)
				k.abort()
				k.free(all-has(size), 10)
			}
		}
		k.holds(1, b)
	}
}

// TestWriteCommitted: a file that grows by writes across all edges, each one committed, and is written over.
func TestWriteCommitted(t *testing.T) {
	for _, step := range []int{1, 64, 511, 512, 513, 5119, 5120, 5121, 11000} {
		k := made(t, 600, 12)
		k.step(func() { k.make(2, 1) })
		var b []byte
		top := min(api.MaxFile, 40*step+7000)
		for n := 0; len(b) < top; n++ {
			// Small steps are taken around the edges alone.
			more := text(n, min(step, top-len(b)))
			if step < 511 && len(b) > 600 && len(b) < 5000 {
				more = text(n, 4400)
			}
			k.step(func() { k.write(1, len(b), more) })
			b = append(b, more...)
			if step > 1 || n%16 == 0 {
				k.holds(1, b)
				k.free(k.p.DataCount-has(len(b)), 10)
			}
		}
		k.holds(1, b)
		for at := 3; at < len(b); at += 1777 {
			more := text(at, min(600, len(b)-at))
			k.step(func() { k.write(1, at, more) })
			b = lay(b, at, more)
		}
		k.holds(1, b)
		k.free(k.p.DataCount-has(len(b)), 10)
		on(t, k.d.Crash(nil), k.p).holds(1, b)
	}
}

// TestWriteRefused: ErrNone, then ErrArg of an at that is not 0 to the size, also of no bytes.
func TestWriteRefused(t *testing.T) {
	for _, size := range []int{0, 5, 512, 5120, 6000} {
		k, b := fileOf(t, size)
		k.begin()
		unchanged := k.same()
		for _, at := range []int{-1, -2, -512, math.MinInt, math.MinInt + 1, size + 1, size + 2, size + 512, 70656, 70657, 1 << 32, math.MaxInt, math.MaxInt - 1, math.MaxInt - 512} {
			for _, n := range []int{0, 1, 512, 513, 80000} {
				k.must("P8.3: Write at what is not 0 to the size", k.s.Write(1, at, make([]byte, n)), api.ErrArg)
			}
		}
		for _, i := range append(noNumbers(), 2, 3, 11) {
			for _, at := range []int{-1, 0, 1, math.MinInt, math.MaxInt} {
				k.must("P8.3: Write of what is none", k.s.Write(i, at, make([]byte, 80000)), api.ErrNone)
				k.must("P8.3: Write of what is none", k.s.Write(i, at, nil), api.ErrNone)
			}
		}
		unchanged("a Write that is refused")
		k.holds(1, b)
	}
}

// TestWriteNothing: no bytes, at any place that is allowed, change nothing.
func TestWriteNothing(t *testing.T) {
	for _, size := range []int{0, 5, 512, 5120, 70656} {
		k, b := fileOf(t, size)
		k.begin()
		unchanged := k.same()
		for _, at := range []int{0, size / 2, size} {
			k.write(1, at, nil)
			k.write(1, at, []byte{})
		}
		k.truncate(1, size)
		unchanged("a Write of nothing")
		k.holds(1, b)
	}
}

// TestTruncate: from every edge to every other; what it grows by is 0, and what it has no more is free.
func TestTruncate(t *testing.T) {
	for _, size := range edges() {
		k, b := fileOf(t, size)
		all := k.p.DataCount
		for _, to := range append(edges(), size-1, size, size+1) {
			// Greater steps would not have room in a transaction.
			if to < 0 || to > api.MaxFile || to-size > 12000 {
				continue
			}
			k.begin()
			k.truncate(1, to)
			k.holds(1, cut(b, to))
			k.free(all-has(to), 10)
			if back := min(size, to+8000); back > to {
				k.truncate(1, back)
				k.holds(1, cut(cut(b, to), back))
				k.free(all-has(back), 10)
			}
			k.abort()
			k.free(all-has(size), 10)
			k.holds(1, b)
		}
	}
}

// TestTruncateCommitted: the same, each step committed, so that blocks hold what they held ahead of it.
func TestTruncateCommitted(t *testing.T) {
	k := made(t, 420, 12)
	k.step(func() {
		k.make(1, 1)
		k.make(1, 2)
	})
	// All data blocks have held bytes that are not 0.
	k.grow(1, text(1, 70656))
	k.step(func() { k.drop(1) })
	k.step(func() { k.make(1, 1) })
	other := text(2, 600)
	k.grow(2, other)
	all := k.p.DataCount - has(600)
	var b []byte
	x := dice(5)
	for n := range 300 {
		to := edges()[x.below(22)] + x.below(2)*x.below(600)
		k.step(func() { k.truncate(1, to) })
		b = cut(b, to)
		k.holds(1, b)
		k.free(all-has(to), 9)
		if n%3 == 0 {
			at := x.below(len(b) + 1)
			more := text(n, x.below(3000))
			k.step(func() { k.write(1, at, more) })
			b = lay(b, at, more)
			k.holds(1, b)
		}
	}
	k.holds(2, other)
}

// TestGrownBytesAre0: also where the file was shorter, or another file had these blocks, before, in one transaction and in several.
func TestGrownBytesAre0(t *testing.T) {
	for _, size := range []int{1, 100, 511, 512, 513, 1000, 5119, 5120, 5121, 9000} {
		for _, to := range []int{0, 1, 99, 511, 512, 513, 600, 5119, 5120, 5121, 8999} {
			if to > size {
				continue
			}
			for _, commit := range []bool{false, true} {
				k, b := fileOf(t, size)
				next := func() {
					if commit {
						k.commit()
						k.begin()
					}
				}
				k.begin()
				k.truncate(1, to)
				next()
				k.make(1, 2)
				next()
				k.truncate(2, 9500)
				k.holds(2, make([]byte, 9500))
				next()
				for _, back := range []int{to + 1, size, size + 1, size + 1000} {
					k.truncate(1, back)
					k.holds(1, cut(b[:to], max(back, to)))
					next()
				}
				k.commit()
				k.holds(1, cut(b[:to], size+1000))
			}
		}
	}
}

// TestTailOfAWrite: a Write behind a Truncate, and a Truncate behind that, let none of the old bytes be seen.
func TestTailOfAWrite(t *testing.T) {
	k, b := fileOf(t, 1000)
	k.begin()
	k.truncate(1, 600)
	k.write(1, 600, []byte("abc"))
	k.holds(1, lay(b[:600], 600, []byte("abc")))
	k.truncate(1, 700)
	want := cut(lay(b[:600], 600, []byte("abc")), 700)
	k.holds(1, want)
	k.write(1, 690, []byte("0123456789ABC"))
	want = lay(want, 690, []byte("0123456789ABC"))
	k.holds(1, want)
	k.truncate(1, 1024)
	k.holds(1, cut(want, 1024))
	k.truncate(1, 1025)
	k.holds(1, cut(want, 1025))
	k.commit()
	k.holds(1, cut(want, 1025))
}

// TestTruncateRefused: ErrNone, then ErrArg below 0, then ErrBig above MaxFile.
func TestTruncateRefused(t *testing.T) {
	for _, size := range []int{0, 5, 512, 6000, 70656} {
		k, b := fileOf(t, size)
		k.begin()
		unchanged := k.same()
		for _, to := range []int{-1, -2, -512, math.MinInt, math.MinInt + 1} {
			k.must("P8.3: Truncate below 0", k.s.Truncate(1, to), api.ErrArg)
		}
		for _, to := range []int{70657, 70658, 71168, 80000, 1 << 31, 1 << 32, 1<<32 + 5, 1 << 62, math.MaxInt, math.MaxInt - 511} {
			k.must("P8.3: Truncate above MaxFile", k.s.Truncate(1, to), api.ErrBig)
		}
		for _, i := range append(noNumbers(), 2, 3, 11) {
			for _, to := range []int{-1, 0, 1, 70657, math.MinInt, math.MaxInt} {
				k.must("P8.3: Truncate of what is none", k.s.Truncate(i, to), api.ErrNone)
			}
		}
		unchanged("a Truncate that is refused")
		k.holds(1, b)
	}
}

// TestGreatest: a file of MaxFile bytes, which has 139 blocks; not one byte more.
func TestGreatest(t *testing.T) {
	k, b := fileOf(t, 70656)
	k.holds(1, b)
	k.free(k.p.DataCount-139, 10)
	k.begin()
	unchanged := k.same()
	for _, w := range []struct{ at, n int }{{70656, 1}, {70655, 2}, {70000, 657}, {0, 70657}, {1, 70656}, {70656, 1000000}, {5, 1 << 20}} {
		k.must("P8.3: Write behind MaxFile", k.s.Write(1, w.at, make([]byte, w.n)), api.ErrBig)
	}
	k.must("P8.3: Truncate above MaxFile", k.s.Truncate(1, 70657), api.ErrBig)
	k.write(1, 70656, nil)
	unchanged("a Write that is refused")
	k.write(1, 70655, []byte{77})
	k.write(1, 0, []byte{78})
	k.commit()
	b[70655], b[0] = 77, 78
	k.holds(1, b)
	k.step(func() { k.write(1, 70656-9000, text(1, 9000)) })
	k.holds(1, lay(b, 70656-9000, text(1, 9000)))
	k.step(func() { k.truncate(1, 70144) })
	k.free(k.p.DataCount-138, 10)
	k.step(func() { k.truncate(1, 70656) })
	k.free(k.p.DataCount-139, 10)
	k.step(func() { k.drop(1) })
	k.free(k.p.DataCount, 11)
}

// TestGrowToTheGreatest: from just below, by a Write and by a Truncate.
func TestGrowToTheGreatest(t *testing.T) {
	for _, size := range []int{70655, 70144, 70143, 65000} {
		k, b := fileOf(t, size)
		k.begin()
		k.must("P8.3: Write", k.s.Write(1, size, make([]byte, 70657-size)), api.ErrBig)
		k.write(1, size, text(1, 70656-size))
		k.holds(1, append(slices.Clone(b), text(1, 70656-size)...))
		k.free(k.p.DataCount-139, 10)
		k.abort()
		k.begin()
		k.truncate(1, 70656)
		k.holds(1, cut(b, 70656))
		k.free(k.p.DataCount-139, 10)
		k.commit()
	}
}

// TestOnlyThisFile: what is done to one file touches no other.
func TestOnlyThisFile(t *testing.T) {
	k := made(t, 900, 20)
	others := map[int][]byte{}
	for i := 1; i < 20; i++ {
		k.step(func() {
			k.make(1+i%2, i)
			k.write(i, 0, text(i, i*i*25))
		})
		others[i] = text(i, i*i*25)
	}
	k.step(func() { k.write(0, 0, text(0, 128)) })
	check := func(but int) {
		t.Helper()
		for i, b := range others {
			if i == but {
				continue
			}
			st, e := k.s.Stat(i)
			got, f := k.s.Read(i, 0, st.Size)
			if e != api.OK || f != api.OK || st.Kind != 1+i%2 || !bytes.Equal(got, b) {
				t.Fatalf("P8.6: the file %d is another one, since the file %d was changed", i, but)
			}
		}
		k.holds(0, text(0, 128))
		k.stat(0, 2, 128)
	}
	for _, i := range []int{1, 7, 8, 9, 15, 16, 19} {
		for _, size := range []int{0, 100, 6000, 9000} {
			k.begin()
			k.truncate(i, size)
			check(i)
			k.write(i, size/2, text(i, 4000))
			check(i)
			k.drop(i)
			check(i)
			k.make(1, i)
			k.write(i, 0, text(i, 7000))
			check(i)
			k.abort()
			check(-1)
		}
	}
}
