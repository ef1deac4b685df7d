package bits_test

import (
	"bytes"
	"math"
	"slices"
	"testing"

	"bollard/bits"
)

// spread is b's bits, one a place.
func spread(b []byte) (out []bool) {
	for _, c := range b {
		for range 8 {
			out = append(out, c%2 == 1)
			c /= 2
		}
	}
	return out
}

// gather is the bytes of such bits.
func gather(s []bool) []byte {
	out := make([]byte, len(s)/8)
	worth := byte(1)
	for k, on := range s {
		if on {
			out[k/8] += worth
		}
		worth *= 2
		if k%8 == 7 {
			worth = 1
		}
	}
	return out
}

// someMaps are maps of bits: none, full, empty, full up to each place, and mixed.
func someMaps() [][]byte {
	out := [][]byte{nil, {}, {0}, {255}, {0, 0}, {255, 255, 255}, {255, 1}, {0x80, 0xff, 0x7f}, {0xa5, 0x3c, 0, 0xe7, 0xff, 0x10}}
	for k := range 24 {
		s := make([]bool, 24)
		for j := range k {
			s[j] = true
		}
		out = append(out, gather(s))
	}
	for c := range 256 {
		out = append(out, []byte{byte(c)}, []byte{255, byte(c), 0})
	}
	return out
}

func TestTest(t *testing.T) {
	b := []byte{0xff, 1}
	for k, want := range map[int]bool{0: true, 7: true, 8: true, 9: false, 15: false, 16: false, -1: false, -8: false, math.MinInt: false, math.MaxInt: false} {
		if bits.Test(b, k) != want {
			t.Errorf("P1.4: Test(%x, %d) = %v", b, k, !want)
		}
	}
	for _, b := range someMaps() {
		s := spread(b)
		for k := -20; k < len(s)+20; k++ {
			want := k >= 0 && k < len(s) && s[k]
			if bits.Test(b, k) != want {
				t.Fatalf("P1.4: Test(%x, %d) = %v", b, k, !want)
			}
		}
		for _, k := range somePlaces() {
			if bits.Test(b, k) {
				t.Fatalf("P1.4: Test(%x, %d) = true", b, k)
			}
		}
	}
}

func TestSet(t *testing.T) {
	for _, x := range []struct {
		b  []byte
		k  int
		on bool
		c  []byte
	}{
		{[]byte{0xff, 1}, 9, true, []byte{0xff, 3}},
		{[]byte{0xff, 1}, 0, false, []byte{0xfe, 1}},
		{[]byte{0xff, 1}, 7, false, []byte{0x7f, 1}},
		{[]byte{0xff, 1}, 15, true, []byte{0xff, 0x81}},
		{[]byte{0xff, 1}, 8, true, []byte{0xff, 1}},
		{[]byte{0xff, 1}, 9, false, []byte{0xff, 1}},
		{[]byte{0xff, 1}, 16, true, []byte{0xff, 1}},
		{[]byte{0xff, 1}, -1, false, []byte{0xff, 1}},
		{nil, 0, true, nil},
	} {
		if c := bits.Set(x.b, x.k, x.on); !bytes.Equal(c, x.c) {
			t.Errorf("P1.4: Set(%x, %d, %v) = %x, want %x", x.b, x.k, x.on, c, x.c)
		}
	}
	for _, b := range someMaps() {
		places := somePlaces()
		for k := -20; k < 8*len(b)+20; k++ {
			places = append(places, k)
		}
		for _, k := range places {
			for _, on := range []bool{true, false} {
				s := spread(b)
				if k >= 0 && k < len(s) {
					s[k] = on
				}
				if c := bits.Set(b, k, on); !bytes.Equal(c, gather(s)) {
					t.Fatalf("P1.4: Set(%x, %d, %v) = %x, want %x", b, k, on, c, gather(s))
				}
			}
		}
	}
}

func TestFirst(t *testing.T) {
	for _, x := range []struct {
		b    []byte
		n, k int
	}{
		{[]byte{0xff, 1}, 16, 9},
		{[]byte{0xff, 1}, 10, 9},
		{[]byte{0xff, 1}, 9, -1},
		{[]byte{0xff, 1}, 99, 9},
		{[]byte{0xff, 0xff}, 16, -1},
		{[]byte{0xff, 0xff}, 17, -1},
		{[]byte{0xff, 0x7f}, math.MaxInt, 15},
		{[]byte{0}, 1, 0},
		{[]byte{0}, 0, -1},
		{[]byte{0}, -5, -1},
		{nil, 5, -1},
	} {
		if k := bits.First(x.b, x.n); k != x.k {
			t.Errorf("P1.4: First(%x, %d) = %d, want %d", x.b, x.n, k, x.k)
		}
	}
	for _, b := range someMaps() {
		s := spread(b)
		for _, n := range limits(b) {
			want := slices.Index(s[:max(0, min(n, len(s)))], false)
			if k := bits.First(b, n); k != want {
				t.Fatalf("P1.4: First(%x, %d) = %d, want %d", b, n, k, want)
			}
		}
	}
}

func TestCount(t *testing.T) {
	for _, x := range []struct {
		b       []byte
		n, ones int
	}{
		{[]byte{0xff, 1}, 16, 9},
		{[]byte{0xff, 1}, 9, 9},
		{[]byte{0xff, 1}, 8, 8},
		{[]byte{0xff, 1}, 3, 3},
		{[]byte{0xff, 1}, 99, 9},
		{[]byte{0xff, 1}, math.MaxInt, 9},
		{[]byte{0xff, 1}, 0, 0},
		{[]byte{0xff, 1}, -1, 0},
		{[]byte{0xff, 1}, math.MinInt, 0},
		{nil, 5, 0},
	} {
		if ones := bits.Count(x.b, x.n); ones != x.ones {
			t.Errorf("P1.4: Count(%x, %d) = %d, want %d", x.b, x.n, ones, x.ones)
		}
	}
	for _, b := range someMaps() {
		s := spread(b)
		for _, n := range limits(b) {
			want := 0
			for _, on := range s[:max(0, min(n, len(s)))] {
				if on {
					want++
				}
			}
			if ones := bits.Count(b, n); ones != want {
				t.Fatalf("P1.4: Count(%x, %d) = %d, want %d", b, n, ones, want)
			}
		}
	}
}

// limits are numbers of bits, around all those that b has.
func limits(b []byte) []int {
	out := somePlaces()
	for n := -20; n < 8*len(b)+20; n++ {
		out = append(out, n)
	}
	return out
}
