package frame_test

import (
	"slices"
	"testing"

	"bollard/api"
	"bollard/frame"
)

func TestExample(t *testing.T) {
	f := frame.New()
	tells(t, "P19.1", f, []byte{0, 0}, nil, true, 2)
	tells(t, "P19.1", f, []byte{0, 1, 'a', 0}, [][]byte{{'a'}}, true, 1)
}

func TestLimit(t *testing.T) {
	if api.MaxFrame != most {
		t.Fatalf("P19.1: MaxFrame = %d, want %d", api.MaxFrame, most)
	}
}

// TestNoBytes: nothing that is fed tells nothing and changes nothing, wherever it comes.
func TestNoBytes(t *testing.T) {
	row := framesOf(0, 1, 5, 0, 0, 2, 300)
	k := made(t, "P19.1", row)
	for at := 0; ; at++ {
		_, _, waiting := k.plain.at(at)
		for _, b := range [][]byte{nil, {}, row[at:at], make([]byte, 0, 9)} {
			tells(t, "P19.1", k.f, b, nil, true, waiting)
		}
		if at == len(row) {
			break
		}
		k.feed(1)
	}
	tells(t, "P19.1", k.f, length(most+1), nil, false, 0)
	isShut(t, "P19.1", k.f)
}

// TestNoBytesAhead: nothing that is fed ahead of a piece, or behind a part of it, changes what the rest of it tells.
func TestNoBytesAhead(t *testing.T) {
	for _, n := range []int{0, 1, 2, most} {
		b := framed(n)
		for at := range len(b) + 1 {
			f := frame.New()
			f.Feed(nil)
			f.Feed(b[:at])
			f.Feed([]byte{})
			want := bodies(n)
			if at == len(b) {
				want = nil
			}
			tells(t, "P19.1", f, b[at:], want, true, 0)
		}
	}
}

// TestSizes: frames at the edges of sizes, alone and several in one piece, with empty ones wherever they may be.
func TestSizes(t *testing.T) {
	sizes := []int{0, 1, 2, 255, 256, most - 1, most}
	for _, a := range sizes {
		tells(t, "P19.1", frame.New(), framesOf(a), bodies(a), true, 0)
		for _, b := range sizes {
			tells(t, "P19.1", frame.New(), framesOf(a, b), bodies(a, b), true, 0)
			tells(t, "P19.1", frame.New(), framesOf(0, a, 0, 0, b, 0), bodies(0, a, 0, 0, b, 0), true, 0)
			f := frame.New()
			tells(t, "P19.1", f, framesOf(a), bodies(a), true, 0)
			tells(t, "P19.1", f, framesOf(0, b), bodies(0, b), true, 0)
			for _, c := range sizes {
				tells(t, "P19.1", frame.New(), framesOf(a, b, c), bodies(a, b, c), true, 0)
			}
		}
	}
}

// TestAllSizes: each size that a frame may have, one behind the other on one Feeder.
func TestAllSizes(t *testing.T) {
	f := frame.New()
	for n := range most + 1 {
		tells(t, "P19.1", f, framed(n), bodies(n), true, 0)
		if t.Failed() {
			return
		}
	}
}

// TestEmptyFrames: a piece of nothing but empty frames has one for each four bytes.
func TestEmptyFrames(t *testing.T) {
	for _, n := range []int{1, 2, 3, 1000, 1 << 20} {
		for more := range 4 {
			f := frame.New()
			tells(t, "P19.1", f, make([]byte, 4*n+more), make([][]byte, n), true, more)
			tells(t, "P19.1", f, make([]byte, 4-more), make([][]byte, 1), true, 0)
		}
	}
}

// TestLengths: a whole length is right or wrong as soon as it is whole, whatever comes behind.
func TestLengths(t *testing.T) {
	for n := uint32(1); n <= most; n++ {
		tells(t, "P19.1", frame.New(), length(n), nil, true, 4)
	}
	for n := uint32(most + 1); n <= 1<<17; n++ {
		tells(t, "P19.1", frame.New(), length(n), nil, false, 0)
	}
	for _, n := range wrongLengths() {
		tells(t, "P19.1", frame.New(), length(n), nil, false, 0)
	}
}

// TestOneByteLengths: every length of which one byte alone is not nought.
func TestOneByteLengths(t *testing.T) {
	for at := range 4 {
		for v := 1; v < 256; v++ {
			head := make([]byte, 4)
			head[at] = byte(v)
			n := v << (8 * (3 - at))
			f := frame.New()
			if n > most {
				tells(t, "P19.1", f, head, nil, false, 0)
				isShut(t, "P19.1", f)
				continue
			}
			tells(t, "P19.1", f, head, nil, true, 4)
			tells(t, "P19.1", f, long(n), bodies(n), true, 0)
		}
	}
}

// TestWrongLength: a length that may not be, behind frames that were told, behind such of the same piece, and where one ends in it; those ahead of it are told.
func TestWrongLength(t *testing.T) {
	for _, n := range wrongLengths() {
		for _, ahead := range [][]int{nil, {0}, {1}, {0, 0, 5}, {3, 0}, {most}, {7, most, 0}} {
			frames := framesOf(ahead...)
			for _, behind := range [][]byte{nil, {0}, framed(1), framesOf(0, 2, 0), length(n), long(20000)} {
				row := slices.Concat(frames, length(n), behind)
				f := frame.New()
				tells(t, "P19.1", f, row, bodies(ahead...), false, 0)
				isShut(t, "P19.1", f)
				f = frame.New()
				tells(t, "P19.1", f, frames, bodies(ahead...), true, 0)
				tells(t, "P19.1", f, row[len(frames):], nil, false, 0)
				isShut(t, "P19.1", f)
			}
		}
	}
}

// TestWrongLengthBehindPart: the frame that ends in the piece in which a length is wrong is told, wherever it was cut.
func TestWrongLengthBehindPart(t *testing.T) {
	for _, n := range wrongLengths() {
		row := slices.Concat(framed(6), length(n), framed(2))
		for at := range 10 {
			f := frame.New()
			tells(t, "P19.1", f, row[:at], nil, true, at)
			tells(t, "P19.1", f, row[at:], bodies(6), false, 0)
			isShut(t, "P19.1", f)
		}
	}
}

// TestWrongLengthCut: as long as a length is not whole it is not wrong, however great its first bytes are.
func TestWrongLengthCut(t *testing.T) {
	for _, n := range wrongLengths() {
		for _, ahead := range [][]int{nil, {0}, {9}, {0, most}} {
			for at := 1; at < 4; at++ {
				f := frame.New()
				tells(t, "P19.1", f, append(framesOf(ahead...), length(n)[:at]...), bodies(ahead...), true, at)
				tells(t, "P19.1", f, nil, nil, true, at)
				tells(t, "P19.1", f, append(length(n)[at:], framed(1)...), nil, false, 0)
				isShut(t, "P19.1", f)
			}
			f := frame.New()
			tells(t, "P19.1", f, framesOf(ahead...), bodies(ahead...), true, 0)
			for i, c := range length(n)[:3] {
				tells(t, "P19.1", f, []byte{c}, nil, true, i+1)
			}
			tells(t, "P19.1", f, length(n)[3:], nil, false, 0)
			isShut(t, "P19.1", f)
		}
	}
}

// TestWrongBytesWithin: what would be a wrong length is none within a frame.
func TestWrongBytesWithin(t *testing.T) {
	for _, n := range wrongLengths() {
		body := slices.Concat(length(n), length(n), []byte{255, 255})
		row := slices.Concat(length(10), body, length(1), []byte{255})
		for at := range len(row) + 1 {
			feeds(t, "P19.1", row, at)
		}
		tells(t, "P19.1", frame.New(), row, [][]byte{body, {255}}, true, 0)
	}
}

// TestWaiting: what is in no frame that was told, at each place of a length, of a frame, and behind it.
func TestWaiting(t *testing.T) {
	f := frame.New()
	waits := func(b []byte, want int) {
		t.Helper()
		f.Feed(b)
		for range 2 {
			if got := f.Waiting(); got != want {
				t.Errorf("P19.1: Waiting = %d, want %d", got, want)
			}
		}
	}
	waits(nil, 0)
	waits([]byte{0}, 1)
	waits([]byte{0}, 2)
	waits([]byte{0}, 3)
	waits([]byte{3}, 4)
	waits([]byte{'a'}, 5)
	waits(nil, 5)
	waits([]byte{'b'}, 6)
	waits([]byte{'c'}, 0)
	waits(length(0), 0)
	waits([]byte{0, 0}, 2)
	waits([]byte{0, 1, 'a', 0, 0, 0, 2, 'a'}, 5)
	waits(append([]byte{'b'}, framed(4)...), 0)
	waits(append(framed(4), framed(5)[:8]...), 8)
	waits(append([]byte{1}, length(most)...), 4)
	waits(long(most-1), most+3)
	waits([]byte{1, 0, 0, 0}, 3)
	waits([]byte{9, 0}, 5)
	waits(long(8), 0)
	waits([]byte{0, 0, 32}, 3)
	waits([]byte{1}, 0)
	waits(long(5), 0)
	if n := frame.New().Waiting(); n != 0 {
		t.Errorf("P19.1: Waiting of a new Feeder = %d", n)
	}
}
