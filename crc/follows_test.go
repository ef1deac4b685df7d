package crc_test

import (
	"bytes"
	"slices"
	"testing"

	"bollard/crc"
)

// turned is a copy of b with the bits turned that digits tells, from the bit at on.
func turned(b []byte, at int, digits uint32) []byte {
	c := slices.Clone(b)
	for i := range 32 {
		if digits>>i&1 == 1 {
			c[(at+i)/8] ^= 1 << ((at + i) % 8)
		}
	}
	return c
}

func TestChangeOfOneByte(t *testing.T) {
	for _, n := range []int{1, 2, 3, 8, 64, 512} {
		b := row(n)
		sum := crc.Sum(b)
		for at := range b {
			for by := 1; by < 256; by++ {
				c := slices.Clone(b)
				c[at] ^= byte(by)
				if crc.Sum(c) == sum {
					t.Fatalf("P2.3: byte %d of %d changed by %02x: the Sum stays %08x", at, n, by, sum)
				}
			}
		}
	}
}

func TestChangeOfNeighbours(t *testing.T) {
	patterns := []uint32{0xffffffff, 0x80000001, 0x82f63b78, 0x1edc6f41, 0x11edc6f4, 0xaaaaaaaa, 0x55555555, 0xffff0000, 0x00ff00ff}
	state := uint32(1)
	for range 200 {
		state = state*1664525 + 1013904223
		patterns = append(patterns, state|1)
	}
	for _, n := range []int{4, 5, 8, 61} {
		b := row(n)
		sum := crc.Sum(b)
		for at := 0; at <= 8*n-32; at++ {
			for _, p := range patterns {
				if crc.Sum(turned(b, at, p)) == sum {
					t.Fatalf("P2.3: bits of %d bytes from %d on changed by %08x: the Sum stays %08x", n, at, p, sum)
				}
			}
		}
	}
}

// rank is how many of the words no others among them make by xor.
func rank(words []uint32) (n int) {
	words = slices.Clone(words)
	for digit := range 32 {
		at := slices.IndexFunc(words[n:], func(w uint32) bool { return w>>digit&1 == 1 })
		if at < 0 {
			continue
		}
		words[n], words[n+at] = words[n+at], words[n]
		for i := n + 1; i < len(words); i++ {
			if words[i]>>digit&1 == 1 {
				words[i] ^= words[n]
			}
		}
		n++
	}
	return n
}

// TestAllChangesOfNeighbours: a change of many bits changes the Sum by the xor of what each of them does; if no xor of some of the 32 is 0, no change of some of them is unseen.
func TestAllChangesOfNeighbours(t *testing.T) {
	for _, n := range []int{4, 5, 9, 512} {
		b := row(n)
		sum := crc.Sum(b)
		alone := make([]uint32, 8*n)
		for at := range alone {
			c := slices.Clone(b)
			c[at/8] ^= 1 << (at % 8)
			alone[at] = crc.Sum(c) ^ sum
		}
		for at := 0; at <= len(alone)-32; at++ {
			if got := rank(alone[at : at+32]); got != 32 {
				t.Fatalf("P2.3: of the 32 bits from %d on in %d bytes only %d change the Sum on their own", at, n, got)
			}
			together := uint32(0)
			for i := 0; i < 32; i += 3 {
				together ^= alone[at+i]
			}
			if got := crc.Sum(turned(b, at, 0x49249249)) ^ sum; got != together {
				t.Fatalf("P2.3: bits from %d on in %d bytes change the Sum by %08x together, by %08x one by one", at, n, got, together)
			}
		}
	}
}

func TestChangeInLong(t *testing.T) {
	b := row(70656)
	sum := crc.Sum(b)
	for _, at := range []int{0, 1, 7, 8, 8*35000 + 3, 8*70656 - 33, 8*70656 - 32} {
		for _, p := range []uint32{1, 1 << 31, 0x80000001, 0xffffffff, 0x82f63b78} {
			c := turned(b, at, p)
			if bytes.Equal(c, b) || crc.Sum(c) == sum {
				t.Errorf("P2.3: bits of 70656 bytes from %d on changed by %08x: the Sum stays %08x", at, p, sum)
			}
		}
	}
}
