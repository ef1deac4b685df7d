package frame_test

import (
	"bytes"
	"testing"

	"bollard/frame"
)

// spoil writes over b and its spare room.
func spoil(b []byte) {
	all := b[:cap(b)]
	for i := range all {
		all[i] ^= 0xff
	}
}

// spare is b with so much spare room behind it, all of it 5, and the memory that both lie in.
func spare(b []byte, room int) (piece, whole []byte) {
	whole = append(bytes.Clone(b), bytes.Repeat([]byte{5}, room)...)
	return whole[:len(b)], whole
}

// someCuts are places at which a row is cut: none, within a length, behind it, within a frame, and behind one.
func someCuts() []int {
	return []int{0, 1, 3, 4, 5, 6, 7, 9, 11, 14, 15, 19, 22}
}

// TestFeedChangesNothing: what is fed stays as it is, and its spare room.
func TestFeedChangesNothing(t *testing.T) {
	for _, row := range append(someRows(), framesOf(3, 0, 7, 100), framesOf(most, 1)) {
		for _, cut := range someCuts() {
			at := min(cut, len(row))
			f := frame.New()
			for _, b := range [][]byte{row[:at], row[at:]} {
				piece, whole := spare(b, most+100)
				was := bytes.Clone(whole)
				told, _ := f.Feed(piece)
				if !bytes.Equal(whole, was) {
					t.Fatalf("P19.4: Feed changed what it was handed: %.40x, want %.40x", whole, was)
				}
				for _, b := range told {
					spoil(b)
					_ = append(b, long(50)...)
				}
				_ = append(told, long(50))
				clear(told[:cap(told)])
				if !bytes.Equal(whole, was) {
					t.Fatalf("P19.4: what Feed was handed changes with what it answered: %.40x, want %.40x", whole, was)
				}
			}
		}
	}
}

// TestFeedKeepsNothing: a piece may be overwritten as soon as it was fed: neither what was told changes, nor what is told later.
func TestFeedKeepsNothing(t *testing.T) {
	for _, row := range append(someRows(), framesOf(3, 0, 7, 100), framesOf(most, 1)) {
		for _, cut := range someCuts() {
			for _, next := range someCuts() {
				at := min(cut, len(row))
				to := min(at+next, len(row))
				want := parse(row).frames
				f := frame.New()
				var told [][]byte
				for _, b := range [][]byte{row[:at], row[at:to], row[to:]} {
					piece, whole := spare(b, 30)
					got, _ := f.Feed(piece)
					spoil(whole)
					told = append(told, got...)
				}
				if !same(told, want) {
					t.Fatalf("P19.4: behind overwritten pieces (%d, %d) %x is told, want %x", at, to, short(told), short(want))
				}
			}
		}
	}
}

// TestOneBuffer: a reader that lays each piece into the same memory.
func TestOneBuffer(t *testing.T) {
	x := dice(3)
	row := x.row(100000)
	for _, size := range []int{1, 3, 64, 1000, most + 10} {
		f := frame.New()
		buffer := make([]byte, size)
		var told [][]byte
		for left := row; len(left) > 0; {
			n := copy(buffer, left)
			got, _ := f.Feed(buffer[:n])
			told = append(told, got...)
			left = left[n:]
		}
		if !same(told, parse(row).frames) {
			t.Fatalf("P19.4: pieces of %d bytes in one memory tell other frames", size)
		}
	}
}

// TestToldStays: what was told stays as it was while more is fed, and may be overwritten and appended to, without anything else being changed by it.
func TestToldStays(t *testing.T) {
	sizes := []int{3, 0, 7, 1, 0, 0, 20, most, 5}
	row := framesOf(sizes...)
	x := dice(5)
	for range 300 {
		k := made(t, "P19.4", row)
		var told, was [][]byte
		for _, cut := range append(x.cuts(len(row), x.pick(3, 30, most)), len(row)) {
			got := k.feed(cut - k.fed)
			told, was = append(told, got...), append(was, copied(got)...)
			if !same(told, was) {
				t.Fatalf("P19.4: what was told changes when more is fed: %x, want %x", short(told), short(was))
			}
			if x.below(3) == 0 && len(told) > 0 {
				i := x.below(len(told))
				spoil(told[i])
				was[i] = bytes.Clone(told[i])
			}
		}
	}
}

// TestToldApart: of one answer no two frames share memory, nor the list of it with that of another one.
func TestToldApart(t *testing.T) {
	sizes := []int{0, 2, 0, 0, 9, 1, most, 0, 300}
	row := framesOf(sizes...)
	for i := range sizes {
		for ahead := range 10 {
			f := frame.New()
			f.Feed(row[:ahead/3])
			told, _ := f.Feed(append(row[ahead/3:len(row):len(row)], 0, 0, 0, 4, 'a', 'b'))
			want := bodies(sizes...)
			_ = append(told[i], long(most)...)
			spoil(told[i])
			for j := range sizes {
				if j != i && !bytes.Equal(told[j], want[j]) {
					t.Fatalf("P19.4: frame %d changes with frame %d: %.20x, want %.20x", j, i, told[j], want[j])
				}
			}
			_ = append(told, long(3))
			clear(told[:cap(told)])
			tells(t, "P19.4", f, []byte{'c', 'd', 0, 0, 0, 0, 0}, [][]byte{[]byte("abcd"), {}}, true, 1)
		}
	}
}

// TestListsApart: a list that was told is no other one's, whatever is fed behind it.
func TestListsApart(t *testing.T) {
	f := frame.New()
	first, _ := f.Feed(framesOf(1, 2, 3))
	second, _ := f.Feed(framesOf(4, 5))
	if !same(first, bodies(1, 2, 3)) || !same(second, bodies(4, 5)) {
		t.Fatalf("P19.4: lists share memory: %x, %x", short(first), short(second))
	}
	_ = append(first, long(9), long(9))
	first[0], first[1] = long(9), long(9)
	if !same(second, bodies(4, 5)) {
		t.Fatalf("P19.4: a list changes with another one: %x", short(second))
	}
	last, _ := f.Feed(append(framed(6), length(most+1)...))
	tells(t, "P19.4", f, framed(1), nil, false, 0)
	if !same(last, bodies(6)) {
		t.Fatalf("P19.4: the last list changes when more is fed: %x", short(last))
	}
}

// TestTwoFeedersApart: of the same bytes two Feeders tell frames that share nothing.
func TestTwoFeedersApart(t *testing.T) {
	row := framesOf(3, 0, 50)
	one, _ := frame.New().Feed(row)
	two, _ := frame.New().Feed(row)
	for _, b := range one {
		spoil(b)
	}
	if !same(two, bodies(3, 0, 50)) || !bytes.Equal(row, framesOf(3, 0, 50)) {
		t.Fatalf("P19.4: frames of two Feeders share memory: %x", short(two))
	}
}

// TestWrapKeepsNothing: what is wrapped stays as it is, and its spare room; what Wrap answered changes with nothing.
func TestWrapKeepsNothing(t *testing.T) {
	for _, n := range []int{0, 1, 3, 4, 5, 255, most - 1, most, most + 1} {
		b, whole := spare(long(n), 100)
		was := bytes.Clone(whole)
		one, ok := frame.Wrap(b)
		two, _ := frame.Wrap(b)
		spoil(one)
		_ = append(one, long(50)...)
		if !bytes.Equal(whole, was) {
			t.Errorf("P19.4: what was wrapped changes: %.40x, want %.40x", whole, was)
		}
		spoil(whole)
		if ok && !bytes.Equal(two, framed(n)) {
			t.Errorf("P19.4: what Wrap answered changes: %.40x, want %.40x", two, framed(n))
		}
	}
}
