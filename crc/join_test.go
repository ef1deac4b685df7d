package crc_test

import (
	"math"
	"testing"

	"bollard/crc"
)

// someLengths are so many bytes as an int may tell, at the edges of its digits.
func someLengths() []int {
	out := []int{3, 5, 6, 7, 12345, 0x123456789abcdef, math.MaxInt - 1, math.MaxInt}
	for i := range 63 {
		out = append(out, 1<<i, 1<<i+1<<(i/2))
	}
	return out
}

// product is a times b modulo the polynomial, each a polynomial with the least digit of x at the bit 31.
func product(a, b uint32) (p uint32) {
	for i := 31; i >= 0; i-- {
		if a>>i&1 == 1 {
			p ^= b
		}
		if b&1 == 1 {
			b = b>>1 ^ 0x82f63b78
		} else {
			b >>= 1
		}
	}
	return p
}

// beyond is c with n bytes of 0 behind it: c times x^8 to the power n, the greatest digit of n first.
func beyond(c uint32, n int) uint32 {
	power := uint32(1) << 31
	for i := 62; i >= 0; i-- {
		power = product(power, power)
		if n>>i&1 == 1 {
			power = product(power, 1<<23)
		}
	}
	return product(c, power)
}

func TestJoinIsSum(t *testing.T) {
	for _, n := range []int{1, 2, 9, 33, 300, 4097} {
		b := row(n)
		want := library(b)
		for cut := 0; cut <= n; cut += 1 + n/50 {
			if got := crc.Join(crc.Sum(b[:cut]), crc.Sum(b[cut:]), n-cut); got != want {
				t.Errorf("P2.2: Join of the first %d and the last %d bytes = %08x, want %08x", cut, n-cut, got, want)
			}
		}
		if got := crc.Join(want, crc.Sum(nil), 0); got != want {
			t.Errorf("P2.2: Join of %d bytes and nothing = %08x, want %08x", n, got, want)
		}
		if got := crc.Join(crc.Sum(nil), want, n); got != want {
			t.Errorf("P2.2: Join of nothing and %d bytes = %08x, want %08x", n, got, want)
		}
	}
}

func TestJoinOfLong(t *testing.T) {
	front, back := row(1000), row(1<<20+77)
	if got, want := crc.Join(crc.Sum(front), crc.Sum(back), len(back)), library(append(front, back...)); got != want {
		t.Errorf("P2.2: Join of 1000 and %d bytes = %08x, want %08x", len(back), got, want)
	}
}

func TestJoinBelowOne(t *testing.T) {
	for _, a := range someSums() {
		for _, b := range []uint32{0, 1, 7, math.MaxUint32} {
			for _, n := range []int{0, -1, -2, -3, -8, -1 << 32, math.MinInt + 1, math.MinInt} {
				if got := crc.Join(a, b, n); got != a {
					t.Fatalf("P2.2: Join(%08x, %08x, %d) = %08x, want %08x", a, b, n, got, a)
				}
			}
		}
	}
}

func TestJoinOneByte(t *testing.T) {
	for _, a := range someSums() {
		for v := range 256 {
			one := []byte{byte(v)}
			if got, want := crc.Join(a, crc.Sum(one), 1), crc.More(a, one); got != want {
				t.Fatalf("P2.2: Join(%08x, Sum(%x), 1) = %08x, want %08x", a, one, got, want)
			}
		}
	}
}

func TestJoinOfAnyLength(t *testing.T) {
	for _, n := range someLengths() {
		for _, a := range someSums() {
			for _, b := range []uint32{0, 7, 0xe3069283, math.MaxUint32} {
				if got, want := crc.Join(a, b, n), beyond(a, n)^b; got != want {
					t.Fatalf("P2.2: Join(%08x, %08x, %d) = %08x, want %08x", a, b, n, got, want)
				}
			}
		}
	}
}

func TestJoinOfThree(t *testing.T) {
	const a, b, c = 0xe3069283, 0x12345678, 0xc1d04330
	for _, n := range someLengths() {
		for _, m := range []int{0, 1, 2, 255, 1 << 20} {
			if n > math.MaxInt-m {
				continue
			}
			left := crc.Join(crc.Join(a, b, n), c, m)
			right := crc.Join(a, crc.Join(b, c, m), n+m)
			if left != right {
				t.Fatalf("P2.2: Join of three, %d and %d bytes at last: %08x from the left, %08x from the right", n, m, left, right)
			}
		}
	}
}
