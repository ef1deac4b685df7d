package frame_test

import (
	"bytes"
	"slices"
	"testing"

	"bollard/frame"
)

// someRows are short ones, whose lengths are right, wrong, and not whole.
func someRows() [][]byte {
	right := framesOf(0, 1, 0, 0, 3, 2)
	rows := [][]byte{
		{},
		framesOf(0),
		framesOf(1),
		framesOf(0, 0, 0),
		framesOf(4, 4),
		right,
		append(right, 0),
		append(framesOf(5, 0), 0, 0, 0),
		append(framesOf(0, 2), 0, 0, 1, 4, 9, 9),
		append(framesOf(2), 255, 255, 255),
		slices.Concat(length(12), length(1<<32-1), framed(1), []byte{7, 7, 7}, framed(2)),
	}
	for _, n := range []uint32{most + 1, 1 << 16, 1 << 24, 1 << 31, 1<<32 - 1} {
		rows = append(rows, slices.Concat(framesOf(0, 3), length(n), framesOf(1, 0)), append(length(n), framesOf(0, 2)...))
	}
	return rows
}

func TestPieces(t *testing.T) {
	for _, row := range someRows() {
		feeds(t, "P19.3", row)
		k := made(t, "P19.3", row)
		for range row {
			k.feed(1)
		}
		for one := range len(row) + 1 {
			feeds(t, "P19.3", row, one)
			for two := one; two <= len(row); two++ {
				feeds(t, "P19.3", row, one, two)
			}
		}
	}
}

// TestGreatPieces: rows with the greatest frames, cut in two at each place.
func TestGreatPieces(t *testing.T) {
	for _, row := range [][]byte{
		framesOf(most, 0),
		framesOf(0, most-1, 1),
		append(framesOf(most), 0, 0, 32, 1, 5),
	} {
		for at := range len(row) + 1 {
			feeds(t, "P19.3", row, at)
		}
		k := made(t, "P19.3", row)
		for range row {
			k.feed(1)
		}
	}
}

// TestAllShortRows: all rows of some bytes that tell something, of up to eight of them, cut at each place.
func TestAllShortRows(t *testing.T) {
	values := []byte{0, 1, 2, 33}
	row := make([]byte, 8)
	for n := range 1 << 16 {
		for i := range row {
			row[i] = values[n>>(2*i)&3]
		}
		for at := range len(row) + 1 {
			feeds(t, "P19.3", row, at)
		}
		k := made(t, "P19.3", row)
		for range row {
			k.feed(1)
		}
	}
}

func TestDrawnPieces(t *testing.T) {
	for seed := range 300 {
		x := dice(seed)
		row := x.row(x.pick(10, 100, 1000, 20000))
		if x.below(2) == 0 {
			row = slices.Concat(row, length(wrongLengths()[x.below(len(wrongLengths()))]), x.row(50))
		}
		row = row[:len(row)-x.below(min(len(row), 12))]
		for _, apart := range []int{1, 3, 10, 500, 9000} {
			feeds(t, "P19.3", row, x.cuts(len(row), apart)...)
		}
	}
}

// TestDrawnBytes: bytes that nobody laid.
func TestDrawnBytes(t *testing.T) {
	for seed := range 3000 {
		x := dice(seed)
		row := make([]byte, x.below(200))
		for i := range row {
			if x.below(5) == 0 {
				row[i] = byte(x.below(x.pick(2, 40, 256)))
			}
		}
		feeds(t, "P19.3", row, x.cuts(len(row), 9)...)
	}
}

// TestLongRows: rows of more than a million bytes in pieces of any sizes; what is told of all of them is that of one piece.
func TestLongRows(t *testing.T) {
	x := dice(7)
	for _, row := range [][]byte{
		x.row(1 << 21),
		make([]byte, 1<<20),
		bytes.Repeat(framed(1), 250000),
		bytes.Repeat(framed(most), 150),
		append(x.row(1<<20), 0, 0, 32, 1, 0, 0, 0, 0),
	} {
		whole, ok := frame.New().Feed(row)
		for _, size := range []int{1, 2, 3, 4, 5, 7, 4095, 4096, most, most + 4, most + 5, 1 << 17, len(row)} {
			k := made(t, "P19.3", row)
			var all [][]byte
			for k.fed < len(row) {
				all = append(all, k.feed(min(size, len(row)-k.fed))...)
			}
			if !same(all, whole) {
				t.Fatalf("P19.3: %d frames in pieces of %d bytes, %d in one piece", len(all), size, len(whole))
			}
			tells(t, "P19.3", k.f, nil, nil, ok, k.f.Waiting())
		}
		feeds(t, "P19.3", row, x.cuts(len(row), 50)...)
		feeds(t, "P19.3", row, x.cuts(len(row), 50000)...)
	}
}

// TestTurns: Feeders that are fed by turns tell what each of them tells alone.
func TestTurns(t *testing.T) {
	for seed := range 100 {
		x := dice(seed)
		kits := []*kit{
			made(t, "P19.3", x.row(3000)),
			made(t, "P19.3", x.row(3000)),
			made(t, "P19.3", slices.Concat(x.row(500), length(most+1), x.row(500))),
		}
		for range 400 {
			k := kits[x.below(len(kits))]
			k.feed(x.below(min(len(k.row)-k.fed, 60) + 1))
			for _, other := range kits {
				other.waits()
			}
		}
		for _, k := range kits {
			k.rest()
		}
	}
}

// TestWrapComesBack: what Wrap made, one behind the other, fed in any pieces.
func TestWrapComesBack(t *testing.T) {
	for seed := range 200 {
		x := dice(seed)
		var row []byte
		var sent, back [][]byte
		for range x.below(30) {
			b := long(x.pick(x.size(), x.size(), 0, most-1, most))
			w, ok := frame.Wrap(b)
			if !ok {
				t.Fatalf("P19.2: Wrap of %d bytes is refused", len(b))
			}
			row, sent = append(row, w...), append(sent, b)
		}
		f := frame.New()
		at := 0
		for _, cut := range append(x.cuts(len(row), x.pick(2, 30, 3000, 20000)), len(row)) {
			got, ok := f.Feed(row[at:cut])
			if !ok {
				t.Fatalf("P19.3: what Wrap made is refused")
			}
			back, at = append(back, got...), cut
		}
		if !same(sent, back) || f.Waiting() != 0 {
			t.Fatalf("P19.3: %d frames of %d came back, Waiting %d", len(back), len(sent), f.Waiting())
		}
	}
}

// TestAllWrapsComeBack: each size alone, in two pieces.
func TestAllWrapsComeBack(t *testing.T) {
	for n := range most + 1 {
		w, _ := frame.Wrap(long(n))
		f := frame.New()
		half := len(w) / 2
		tells(t, "P19.3", f, w[:half], nil, true, half)
		tells(t, "P19.3", f, w[half:], bodies(n), true, 0)
		if t.Failed() {
			return
		}
	}
}
