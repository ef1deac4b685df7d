package frame_test

import (
	"bytes"
	"encoding/binary"
	"math"
	"slices"
	"sort"
	"testing"

	"bollard/frame"
)

// most is how many bytes a frame may have.
const most = 8192

// dice are numbers without a pattern, the same ones at each run.
type dice uint64

func (x *dice) below(n int) int {
	*x = *x*6364136223846793005 + 1442695040888963407
	return int(uint64(*x) >> 33 % uint64(n))
}

// pick is one of l.
func (x *dice) pick(l ...int) int {
	return l[x.below(len(l))]
}

// size is one that a frame may have, mostly a small one.
func (x *dice) size() int {
	return x.below(x.pick(1, 2, 5, 40, 300, most+1))
}

// row is frames of drawn sizes, of at least so many bytes in all.
func (x *dice) row(bytes int) (b []byte) {
	for len(b) < bytes {
		b = append(b, framed(x.size())...)
	}
	return b
}

// cuts are drawn places within so many bytes, rising, at most so far apart.
func (x *dice) cuts(bytes, apart int) (l []int) {
	for at := x.below(apart + 1); at < bytes; at += x.below(apart + 1) {
		l = append(l, at)
	}
	return l
}

// long is n bytes of all values.
func long(n int) []byte {
	b := make([]byte, n)
	for i := range b {
		b[i] = byte(251*i + n)
	}
	return b
}

// length is four bytes, laid by the library.
func length(n uint32) []byte {
	return binary.BigEndian.AppendUint32(nil, n)
}

// framed is a frame of n bytes.
func framed(n int) []byte {
	return append(length(uint32(n)), long(n)...)
}

// framesOf are frames of these sizes, one behind the other.
func framesOf(sizes ...int) (b []byte) {
	for _, n := range sizes {
		b = append(b, framed(n)...)
	}
	return b
}

// bodies are what these frames hold.
func bodies(sizes ...int) (l [][]byte) {
	for _, n := range sizes {
		l = append(l, long(n))
	}
	return l
}

// wrongLengths are some that may not be.
func wrongLengths() []uint32 {
	return []uint32{most + 1, most + 2, 1<<14 - 1, 1 << 14, 1<<16 - 1, 1 << 16, 1<<16 + 1, 1<<16 + most, 1 << 24, 1<<24 + most, 1<<31 - 1, 1 << 31, 1<<31 + 1, 1<<32 - most, 1<<32 - 1}
}

// same is whether frames are the same, one after the other.
func same(a, b [][]byte) bool {
	return slices.EqualFunc(a, b, bytes.Equal)
}

// copied is frames in memory of their own.
func copied(l [][]byte) (c [][]byte) {
	for _, b := range l {
		c = append(c, bytes.Clone(b))
	}
	return c
}

// short is frames as a failure tells them.
func short(l [][]byte) (c [][]byte) {
	for _, b := range l[:min(len(l), 5)] {
		c = append(c, b[:min(len(b), 10)])
	}
	return c
}

// plain is what P19.1 says of a row of bytes, told of all of it at once.
type plain struct {
	frames [][]byte
	ends   []int // how many bytes are fed when each of them ends
	bad    int   // how many are fed when a length that may not be is whole
}

func parse(all []byte) plain {
	p := plain{bad: math.MaxInt}
	for at := 0; at+4 <= len(all); {
		n := int(binary.BigEndian.Uint32(all[at:]))
		if n > most {
			p.bad = at + 4
			break
		}
		if at += 4 + n; at > len(all) {
			break
		}
		p.frames = append(p.frames, bytes.Clone(all[at-n:at]))
		p.ends = append(p.ends, at)
	}
	return p
}

// at is what must be so once n bytes were fed: how many frames were told, the answer, and Waiting.
func (p plain) at(n int) (count int, ok bool, waiting int) {
	count = sort.SearchInts(p.ends, n+1)
	if n >= p.bad {
		return count, false, 0
	}
	if count > 0 {
		n -= p.ends[count-1]
	}
	return count, true, n
}

// kit is a Feeder that is fed a row piece by piece, and what is so of that row.
type kit struct {
	t       *testing.T
	promise string
	f       *frame.Feeder
	row     []byte
	plain   plain
	fed     int
	told    int
}

func made(t *testing.T, promise string, row []byte) *kit {
	return &kit{t: t, promise: promise, f: frame.New(), row: row, plain: parse(row)}
}

// feed feeds the next n bytes, and holds what is told and what waits against what must be so.
func (k *kit) feed(n int) [][]byte {
	got, ok := k.f.Feed(k.row[k.fed : k.fed+n])
	k.fed += n
	count, want, waiting := k.plain.at(k.fed)
	frames := k.plain.frames[k.told:count]
	k.told = count
	if ok != want || !same(got, frames) || k.f.Waiting() != waiting {
		// Only here: it takes longer than all the rest, and pieces are many.
		k.t.Helper()
		k.t.Fatalf("%s: Feed of %d bytes, %d in all = %d frames %x %v, Waiting %d, want %d %x %v, %d", k.promise, n, k.fed, len(got), short(got), ok, k.f.Waiting(), len(frames), short(frames), want, waiting)
	}
	return got
}

// waits holds Waiting against what must be so.
func (k *kit) waits() {
	if _, _, want := k.plain.at(k.fed); k.f.Waiting() != want {
		k.t.Helper()
		k.t.Fatalf("%s: Waiting behind %d bytes = %d, want %d", k.promise, k.fed, k.f.Waiting(), want)
	}
}

// rest feeds what is left.
func (k *kit) rest() [][]byte {
	k.t.Helper()
	return k.feed(len(k.row) - k.fed)
}

// feeds feeds a row that is cut at these places, to a Feeder of its own.
func feeds(t *testing.T, promise string, row []byte, cuts ...int) {
	t.Helper()
	k := made(t, promise, row)
	for _, at := range cuts {
		k.feed(at - k.fed)
	}
	k.rest()
}

// tells must be what a Feeder tells of b, and how many bytes wait then.
func tells(t *testing.T, promise string, f *frame.Feeder, b []byte, frames [][]byte, ok bool, waiting int) {
	t.Helper()
	if got, is := f.Feed(b); !same(got, frames) || is != ok || f.Waiting() != waiting {
		t.Errorf("%s: Feed(%.20x (%d bytes)) = %d frames %x %v, Waiting %d, want %d %x %v, %d", promise, b, len(b), len(got), short(got), is, f.Waiting(), len(frames), short(frames), ok, waiting)
	}
}

// isShut must be what a Feeder is once a length was wrong: whatever is fed, again and again.
func isShut(t *testing.T, promise string, f *frame.Feeder) {
	t.Helper()
	for range 3 {
		for _, b := range [][]byte{nil, {}, {0}, {7}, length(0), framed(1), framesOf(0, 3, 0), length(most + 1), long(20000)} {
			tells(t, promise, f, b, nil, false, 0)
		}
	}
}
