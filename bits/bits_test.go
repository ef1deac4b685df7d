package bits_test

import (
	"bytes"
	"encoding/binary"
	"math"
	"math/big"
	"slices"
	"testing"

	"bollard/bits"
)

// somePlaces are ints at which sums wrap round or signs turn.
func somePlaces() []int {
	return []int{math.MinInt, math.MinInt + 1, -1 << 32, -9, -8, -1, 1 << 31, 1 << 32, 1 << 60, 1 << 61, 1 << 62, math.MaxInt - 8, math.MaxInt - 1, math.MaxInt}
}

// someNumbers are numbers at the edges of bytes, groups and signs.
func someNumbers() []uint64 {
	out := []uint64{0, 1, 0x0123456789abcdef, 0xfedcba9876543210}
	for i := range 64 {
		p := uint64(1) << i
		out = append(out, p-1, p, p+1, ^p, -p)
	}
	return out
}

// someInts are those as ints.
func someInts() []int {
	out := somePlaces()
	for _, u := range someNumbers() {
		out = append(out, int(u))
	}
	return out
}

// digits is the number of b's bytes, told without a shift.
func digits(b []byte, greatestFirst bool) uint64 {
	c := slices.Clone(b)
	if !greatestFirst {
		slices.Reverse(c)
	}
	return new(big.Int).SetBytes(c).Uint64()
}

// row is n bytes, all different (for n below 256).
func row(n int) []byte {
	b := make([]byte, n)
	for i := range b {
		b[i] = byte(0xf1 + 7*i)
	}
	return b
}

func TestGetExamples(t *testing.T) {
	b := []byte{1, 2, 3, 4, 5, 6, 7, 8, 0xff}
	for _, x := range []struct {
		at, size int
		big      bool
		v        uint64
		ok       bool
	}{
		{1, 2, true, 0x0203, true},
		{1, 2, false, 0x0302, true},
		{0, 1, true, 1, true},
		{8, 1, false, 0xff, true},
		{0, 8, true, 0x0102030405060708, true},
		{0, 8, false, 0x0807060504030201, true},
		{1, 8, true, 0x02030405060708ff, true},
		{1, 8, false, 0xff08070605040302, true},
		{2, 8, true, 0, false},
		{0, 0, true, 0, false},
		{0, 9, true, 0, false},
		{0, -1, false, 0, false},
		{-1, 1, false, 0, false},
		{-1, 2, true, 0, false},
		{9, 1, true, 0, false},
		{8, 2, true, 0, false},
		{10, 1, true, 0, false},
		{9, 0, true, 0, false},
	} {
		v, ok := bits.Get(b, x.at, x.size, x.big)
		if v != x.v || ok != x.ok {
			t.Errorf("P1.1: Get(%x, %d, %d, %v) = %x %v, want %x %v", b, x.at, x.size, x.big, v, ok, x.v, x.ok)
		}
	}
	if v, ok := bits.Get([]byte{1, 2, 3}, 1, 2, true); v != 0x0203 || !ok {
		t.Errorf("P1.1: Get(01 02 03, 1, 2, big) = %x %v", v, ok)
	}
}

func TestGetEverywhere(t *testing.T) {
	for n := range 19 {
		b := row(n)
		for at := -3; at <= n+3; at++ {
			for size := -2; size <= 11; size++ {
				for _, order := range []bool{true, false} {
					var want uint64
					there := size >= 1 && size <= 8 && at >= 0 && at+size <= n
					if there {
						want = digits(b[at:at+size], order)
					}
					if v, ok := bits.Get(b, at, size, order); v != want || ok != there {
						t.Fatalf("P1.1: Get(%x, %d, %d, %v) = %x %v, want %x %v", b, at, size, order, v, ok, want, there)
					}
				}
			}
		}
	}
}

func TestPutExamples(t *testing.T) {
	b := []byte{1, 2, 3, 4}
	for _, x := range []struct {
		at, size int
		big      bool
		v        uint64
		c        []byte
	}{
		{1, 2, true, 0xabcdef, []byte{1, 0xcd, 0xef, 4}},
		{1, 2, false, 0xabcdef, []byte{1, 0xef, 0xcd, 4}},
		{3, 1, true, 0x100, []byte{1, 2, 3, 0}},
		{0, 4, false, 0x0a0b0c0d, []byte{0x0d, 0x0c, 0x0b, 0x0a}},
		{0, 4, true, 0, []byte{0, 0, 0, 0}},
		{4, 1, true, 5, nil},
		{0, 5, true, 5, nil},
		{0, 0, true, 5, nil},
		{-1, 1, false, 5, nil},
	} {
		c, ok := bits.Put(b, x.at, x.size, x.big, x.v)
		if !bytes.Equal(c, x.c) || ok != (x.c != nil) {
			t.Errorf("P1.1: Put(%x, %d, %d, %v, %x) = %x %v, want %x", b, x.at, x.size, x.big, x.v, c, ok, x.c)
		}
	}
}

func TestPutEverywhere(t *testing.T) {
	const v = 0x8192a3b4c5d6e7f8
	var all [8]byte
	binary.BigEndian.PutUint64(all[:], v)
	for n := range 19 {
		b := row(n)
		for at := -3; at <= n+3; at++ {
			for size := -2; size <= 11; size++ {
				for _, order := range []bool{true, false} {
					var want []byte
					there := size >= 1 && size <= 8 && at >= 0 && at+size <= n
					if there {
						least := slices.Clone(all[8-size:])
						if !order {
							slices.Reverse(least)
						}
						want = slices.Concat(b[:at], least, b[at+size:])
					}
					if c, ok := bits.Put(b, at, size, order, v); !bytes.Equal(c, want) || ok != there {
						t.Fatalf("P1.1: Put(%x, %d, %d, %v) = %x %v, want %x %v", b, at, size, order, c, ok, want, there)
					}
				}
			}
		}
	}
}

func TestNumbersFarOutside(t *testing.T) {
	for _, b := range [][]byte{nil, {}, row(1), row(9), row(16)} {
		for _, far := range somePlaces() {
			for _, order := range []bool{true, false} {
				for _, x := range [][2]int{{far, 1}, {far, 8}, {0, far}, {1, far}, {far, far}, {far, -far}} {
					if v, ok := bits.Get(b, x[0], x[1], order); v != 0 || ok {
						t.Errorf("P1.1: Get(%d bytes, %d, %d) = %x %v", len(b), x[0], x[1], v, ok)
					}
					if c, ok := bits.Put(b, x[0], x[1], order, 7); len(c) != 0 || ok {
						t.Errorf("P1.1: Put(%d bytes, %d, %d) = %x %v", len(b), x[0], x[1], c, ok)
					}
				}
			}
		}
	}
}

func TestVarint(t *testing.T) {
	for _, x := range []struct {
		v uint64
		b []byte
	}{
		{0, []byte{0}},
		{1, []byte{1}},
		{127, []byte{0x7f}},
		{128, []byte{0x80, 1}},
		{300, []byte{0xac, 2}},
		{16383, []byte{0xff, 0x7f}},
		{16384, []byte{0x80, 0x80, 1}},
		{1<<63 - 1, []byte{0xff, 0xff, 0xff, 0xff, 0xff, 0xff, 0xff, 0xff, 0x7f}},
		{1 << 63, []byte{0x80, 0x80, 0x80, 0x80, 0x80, 0x80, 0x80, 0x80, 0x80, 1}},
		{1<<64 - 1, []byte{0xff, 0xff, 0xff, 0xff, 0xff, 0xff, 0xff, 0xff, 0xff, 1}},
	} {
		if b := bits.Varint(x.v); !bytes.Equal(b, x.b) {
			t.Errorf("P1.2: Varint(%d) = %x, want %x", x.v, b, x.b)
		}
	}
	for _, v := range someNumbers() {
		if b, want := bits.Varint(v), binary.AppendUvarint(nil, v); !bytes.Equal(b, want) {
			t.Errorf("P1.2: Varint(%d) = %x, want %x", v, b, want)
		}
	}
}

func TestUnvarint(t *testing.T) {
	ten := func(last ...byte) []byte { return append(bytes.Repeat([]byte{0xff}, 9), last...) }
	for _, x := range []struct {
		b []byte
		v uint64
		n int
	}{
		{nil, 0, 0},
		{[]byte{0}, 0, 1},
		{[]byte{0, 0}, 0, 1},
		{[]byte{5, 0x80}, 5, 1},
		{[]byte{0x7f, 1}, 127, 1},
		{[]byte{0xac, 2}, 300, 2},
		{[]byte{0xac, 2, 9, 9}, 300, 2},
		{[]byte{0x80, 0x80, 1}, 16384, 3},
		{[]byte{0x80}, 0, 0},
		{[]byte{0x85, 0x80}, 0, 0},
		{[]byte{0x80, 0}, 0, 0},
		{[]byte{0xff, 0}, 0, 0},
		{[]byte{0x81, 0x80, 0}, 0, 0},
		{[]byte{0x80, 0, 1}, 0, 0},
		{ten(), 0, 0},
		{ten(0), 0, 0},
		{ten(1), 1<<64 - 1, 10},
		{ten(1, 1), 1<<64 - 1, 10},
		{ten(2), 0, 0},
		{ten(3), 0, 0},
		{ten(0x7f), 0, 0},
		{ten(0x80), 0, 0},
		{ten(0x80, 1), 0, 0},
		{ten(0x81, 0), 0, 0},
		{ten(0x81, 1), 0, 0},
		{bytes.Repeat([]byte{0x80}, 10), 0, 0},
		{append(bytes.Repeat([]byte{0x80}, 9), 1), 1 << 63, 10},
		{append(bytes.Repeat([]byte{0x80}, 100), 1), 0, 0},
	} {
		if v, n := bits.Unvarint(x.b); v != x.v || n != x.n {
			t.Errorf("P1.2: Unvarint(%x) = %d %d, want %d %d", x.b, v, n, x.v, x.n)
		}
	}
}

// TestOneEncoding reads all short lists of bytes: what is read is what Varint writes.
func TestOneEncoding(t *testing.T) {
	edges := []byte{0, 1, 2, 0x7e, 0x7f, 0x80, 0x81, 0xfe, 0xff}
	lists := [][]byte{nil}
	for from, long := 0, 1; long <= 5; long++ {
		to := len(lists)
		for _, l := range lists[from:to] {
			for _, c := range edges {
				lists = append(lists, append(slices.Clone(l), c))
			}
		}
		from = to
	}
	for _, b := range lists {
		v, n := bits.Unvarint(b)
		if n == 0 && v != 0 || n > 0 && !bytes.Equal(bits.Varint(v), b[:n]) {
			t.Fatalf("P1.2: Unvarint(%x) = %d %d, Varint of that %x", b, v, n, bits.Varint(v))
		}
		std, m := binary.Uvarint(b)
		doubled := m > 1 && b[m-1] == 0
		if m <= 0 || doubled {
			std, m = 0, 0
		}
		if v != std || n != m {
			t.Fatalf("P1.2: Unvarint(%x) = %d %d, want %d %d", b, v, n, std, m)
		}
	}
}

func TestZigZag(t *testing.T) {
	for _, x := range []struct {
		v int
		u uint64
	}{
		{0, 0}, {-1, 1}, {1, 2}, {-2, 3}, {2, 4}, {-64, 127}, {64, 128},
		{math.MaxInt, 1<<64 - 2}, {math.MinInt, 1<<64 - 1}, {math.MinInt + 1, 1<<64 - 3},
	} {
		if u := bits.Zig(x.v); u != x.u {
			t.Errorf("P1.2: Zig(%d) = %d, want %d", x.v, u, x.u)
		}
		if v := bits.Zag(x.u); v != x.v {
			t.Errorf("P1.2: Zag(%d) = %d, want %d", x.u, v, x.v)
		}
	}
	for _, v := range someInts() {
		want := new(big.Int).Mul(big.NewInt(2), big.NewInt(int64(v)))
		if v < 0 {
			want.Neg(want).Sub(want, big.NewInt(1))
		}
		u := bits.Zig(v)
		if u != want.Uint64() || bits.Zag(u) != v {
			t.Errorf("P1.2: Zig(%d) = %d, want %v; Zag of it %d", v, u, want, bits.Zag(u))
		}
	}
	for _, u := range someNumbers() {
		if bits.Zig(bits.Zag(u)) != u {
			t.Errorf("P1.2: Zig of Zag(%d) = %d", u, bits.Zig(bits.Zag(u)))
		}
	}
}

func TestNarrowExamples(t *testing.T) {
	for _, x := range []struct {
		v, width int
		signed   bool
		u        uint64
		ok       bool
	}{
		{-1, 8, true, 255, true},
		{127, 8, true, 127, true},
		{128, 8, true, 0, false},
		{-128, 8, true, 128, true},
		{-129, 8, true, 0, false},
		{255, 8, false, 255, true},
		{256, 8, false, 0, false},
		{-1, 8, false, 0, false},
		{0, 1, false, 0, true},
		{1, 1, false, 1, true},
		{2, 1, false, 0, false},
		{0, 1, true, 0, true},
		{-1, 1, true, 1, true},
		{1, 1, true, 0, false},
		{-2, 1, true, 0, false},
		{math.MaxInt, 63, false, 1<<63 - 1, true},
		{-1, 63, false, 0, false},
		{1<<62 - 1, 63, true, 1<<62 - 1, true},
		{1 << 62, 63, true, 0, false},
		{-1 << 62, 63, true, 1 << 62, true},
		{-1<<62 - 1, 63, true, 0, false},
		{math.MaxInt, 64, false, 1<<63 - 1, true},
		{-1, 64, false, 0, false},
		{math.MinInt, 64, false, 0, false},
		{math.MaxInt, 64, true, 1<<63 - 1, true},
		{-1, 64, true, 1<<64 - 1, true},
		{math.MinInt, 64, true, 1 << 63, true},
		{0, 64, false, 0, true},
		{0, 0, false, 0, false},
		{0, 0, true, 0, false},
		{5, 65, false, 0, false},
		{5, 65, true, 0, false},
		{-5, 65, true, 0, false},
		{0, -1, true, 0, false},
	} {
		if u, ok := bits.Narrow(x.v, x.width, x.signed); u != x.u || ok != x.ok {
			t.Errorf("P1.3: Narrow(%d, %d, %v) = %x %v, want %x %v", x.v, x.width, x.signed, u, ok, x.u, x.ok)
		}
	}
}

// reach is the least and the greatest number of so many digits, and how many numbers there are.
func reach(width int, signed bool) (least, greatest, all *big.Int) {
	all = new(big.Int).Exp(big.NewInt(2), big.NewInt(int64(width)), nil)
	least = new(big.Int)
	if signed {
		least.Quo(all, big.NewInt(-2))
	}
	greatest = new(big.Int).Add(least, all)
	return least, greatest.Sub(greatest, big.NewInt(1)), all
}

func TestNarrowEverywhere(t *testing.T) {
	for width := 1; width <= 64; width++ {
		for _, signed := range []bool{true, false} {
			least, greatest, all := reach(width, signed)
			for _, v := range someInts() {
				n := big.NewInt(int64(v))
				there := n.Cmp(least) >= 0 && n.Cmp(greatest) <= 0
				var want uint64
				if there {
					want = new(big.Int).Mod(n, all).Uint64()
				}
				if u, ok := bits.Narrow(v, width, signed); u != want || ok != there {
					t.Fatalf("P1.3: Narrow(%d, %d, %v) = %x %v, want %x %v", v, width, signed, u, ok, want, there)
				}
			}
		}
	}
}

func TestWidenExamples(t *testing.T) {
	for _, x := range []struct {
		u      uint64
		width  int
		signed bool
		v      int
	}{
		{255, 8, true, -1},
		{255, 8, false, 255},
		{0x1ff, 8, false, 255},
		{0x17f, 8, true, 127},
		{0x80, 8, true, -128},
		{1, 1, true, -1},
		{1, 1, false, 1},
		{2, 1, true, 0},
		{1<<64 - 1, 63, true, -1},
		{1<<64 - 1, 63, false, math.MaxInt},
		{1 << 63, 63, false, 0},
		{1 << 62, 63, true, -1 << 62},
		{1<<64 - 1, 64, false, -1},
		{1 << 63, 64, false, math.MinInt},
		{1 << 63, 64, true, math.MinInt},
		{1<<63 - 1, 64, true, math.MaxInt},
		{5, 0, true, 0},
		{5, 0, false, 0},
		{5, 65, true, 0},
		{5, 65, false, 0},
		{5, -1, false, 0},
	} {
		if v := bits.Widen(x.u, x.width, x.signed); v != x.v {
			t.Errorf("P1.3: Widen(%x, %d, %v) = %d, want %d", x.u, x.width, x.signed, v, x.v)
		}
	}
}

func TestWidenEverywhere(t *testing.T) {
	for width := 1; width <= 64; width++ {
		for _, signed := range []bool{true, false} {
			_, greatest, all := reach(width, signed || width == 64)
			for _, u := range someNumbers() {
				want := new(big.Int).SetUint64(u)
				want.Mod(want, all)
				if want.Cmp(greatest) > 0 {
					want.Sub(want, all)
				}
				if v := bits.Widen(u, width, signed); int64(v) != want.Int64() {
					t.Fatalf("P1.3: Widen(%x, %d, %v) = %d, want %v", u, width, signed, v, want)
				}
			}
		}
	}
}

func TestWidthsThatAreNone(t *testing.T) {
	for _, width := range append(somePlaces(), -64, -2, 0, 65, 66, 127, 128) {
		for _, signed := range []bool{true, false} {
			for _, v := range []int{0, 1, -1, math.MaxInt, math.MinInt} {
				if u, ok := bits.Narrow(v, width, signed); u != 0 || ok {
					t.Errorf("P1.3: Narrow(%d, %d, %v) = %x %v", v, width, signed, u, ok)
				}
				if w := bits.Widen(uint64(v), width, signed); w != 0 {
					t.Errorf("P1.3: Widen(%x, %d, %v) = %d", uint64(v), width, signed, w)
				}
			}
		}
	}
}
