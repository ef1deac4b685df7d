package crc_test

import (
	"bytes"
	"hash/crc32"
	"math"
	"math/big"
	"slices"
	"testing"

	"bollard/crc"
)

// row is n bytes without a pattern, the same at each call.
func row(n int) []byte {
	b := make([]byte, n)
	state := uint32(n) + 1
	for i := range b {
		state = state*1664525 + 1013904223
		b[i] = byte(state >> 24)
	}
	return b
}

// library is the sum as Go's own library tells it.
func library(b []byte) uint32 {
	return crc32.Checksum(b, crc32.MakeTable(crc32.Castagnoli))
}

// someSums are sums at the edges of a word, and between.
func someSums() []uint32 {
	out := []uint32{0, math.MaxUint32, 0xe3069283, 0x82f63b78, 0x12345678}
	for i := range 32 {
		out = append(out, 1<<i, ^uint32(1<<i))
	}
	return out
}

func TestSumExamples(t *testing.T) {
	ones := bytes.Repeat([]byte{0xff}, 32)
	up := make([]byte, 32)
	down := make([]byte, 32)
	for i := range up {
		up[i], down[i] = byte(i), byte(31-i)
	}
	for _, x := range []struct {
		b    []byte
		want uint32
	}{
		{[]byte("123456789"), 0xe3069283},
		{nil, 0},
		{[]byte{}, 0},
		{[]byte{0}, 0x527d5351},
		{[]byte("a"), 0xc1d04330},
		{make([]byte, 32), 0x8a9136aa},
		{ones, 0x62a8ab43},
		{up, 0x46dd794e},
		{down, 0x113fdb5c},
	} {
		if got := crc.Sum(x.b); got != x.want {
			t.Errorf("P2.1: Sum(%x) = %08x, want %08x", x.b, got, x.want)
		}
	}
}

// divided is the sum by its definition: the bits of b, the least of each byte first, as a polynomial, the first 32 turned, times x^32, divided by the polynomial.
func divided(b []byte) uint32 {
	n := 8*len(b) + 32
	rest := new(big.Int)
	for i := range 8 * len(b) {
		rest.SetBit(rest, n-1-i, uint(b[i/8]>>(i%8)&1))
	}
	for i := range 32 {
		rest.SetBit(rest, n-1-i, rest.Bit(n-1-i)^1)
	}
	divisor := big.NewInt(0x11edc6f41)
	for at := n - 1; at >= 32; at-- {
		if rest.Bit(at) == 1 {
			rest.Xor(rest, new(big.Int).Lsh(divisor, uint(at-32)))
		}
	}
	var sum uint32
	for i := range 32 {
		sum |= uint32(rest.Bit(31-i)) << i
	}
	return ^sum
}

func TestSumByDivision(t *testing.T) {
	for n := range 70 {
		b := row(n)
		if got, want := crc.Sum(b), divided(b); got != want {
			t.Fatalf("P2.1: Sum(%x) = %08x, want %08x", b, got, want)
		}
	}
}

func TestSumOfEachByte(t *testing.T) {
	for v := range 256 {
		b := []byte{byte(v)}
		if got, want := crc.Sum(b), divided(b); got != want {
			t.Errorf("P2.1: Sum(%x) = %08x, want %08x", b, got, want)
		}
	}
}

func TestSumLong(t *testing.T) {
	for _, n := range []int{100, 255, 256, 257, 511, 512, 513, 4096, 6000, 70656, 1 << 20} {
		b := row(n)
		if got, want := crc.Sum(b), library(b); got != want {
			t.Errorf("P2.1: Sum of %d bytes = %08x, want %08x", n, got, want)
		}
	}
}

func TestMoreExamples(t *testing.T) {
	b := []byte("123456789")
	for cut := range len(b) + 1 {
		if got := crc.More(crc.Sum(b[:cut]), b[cut:]); got != 0xe3069283 {
			t.Errorf("P2.2: More(Sum(%q), %q) = %08x, want e3069283", b[:cut], b[cut:], got)
		}
	}
}

func TestMoreOfNothing(t *testing.T) {
	for _, c := range someSums() {
		if a, b := crc.More(c, nil), crc.More(c, []byte{}); a != c || b != c {
			t.Errorf("P2.2: More(%08x, nothing) = %08x and %08x, want %08x", c, a, b, c)
		}
	}
}

func TestMoreInPieces(t *testing.T) {
	b := row(3000)
	want := library(b)
	for size := 1; size < 700; size += 1 + size/9 {
		var c uint32
		for piece := range slices.Chunk(b, size) {
			c = crc.More(c, piece)
		}
		if c != want {
			t.Errorf("P2.2: More by pieces of %d bytes = %08x, want %08x", size, c, want)
		}
	}
	var c uint32
	for at, size := 0, 0; at < len(b); size++ {
		end := min(len(b), at+size)
		c = crc.More(c, b[at:end])
		at = end
	}
	if c != want {
		t.Errorf("P2.2: More by pieces that grow = %08x, want %08x", c, want)
	}
}

func TestMoreOntoAnySum(t *testing.T) {
	table := crc32.MakeTable(crc32.Castagnoli)
	for _, c := range someSums() {
		for _, n := range []int{1, 2, 3, 4, 5, 8, 9, 33} {
			b := row(n)
			if got, want := crc.More(c, b), crc32.Update(c, table, b); got != want {
				t.Errorf("P2.2: More(%08x, %x) = %08x, want %08x", c, b, got, want)
			}
		}
	}
}

func TestWhatIsHandedIn(t *testing.T) {
	whole := row(64)
	part := whole[8:48]
	first := crc.Sum(part)
	crc.More(first, part)
	if !bytes.Equal(whole, row(64)) {
		t.Errorf("P2.1, P2.2: what was handed in was changed: %x", whole)
	}
	for i := range part {
		part[i] ^= 0x5a
	}
	if got, want := crc.Sum(part), library(part); got != want {
		t.Errorf("P2.1: an earlier call is seen: %08x, want %08x", got, want)
	}
	if got, want := crc.More(first, part), library(slices.Concat(row(64)[8:48], part)); got != want {
		t.Errorf("P2.2: an earlier call is seen: %08x, want %08x", got, want)
	}
}
