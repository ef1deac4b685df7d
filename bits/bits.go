// Package bits is numbers as bytes: see DOC.md, chapter 1.
package bits

// fits is whether a number of size bytes lies within b from at on.
func fits(b []byte, at, size int) bool {
	// at is held against what is left, since at+size may wrap round.
	return size >= 1 && size <= 8 && at >= 0 && at <= len(b)-size
}

// place is where the byte i of a number lies, if the least byte is its byte 0.
func place(i, size int, big bool) int {
	if big {
		return size - 1 - i
	}
	return i
}

// clone is b in memory of its own.
func clone(b []byte) []byte {
	c := make([]byte, len(b))
	copy(c, b)
	return c
}

// Get is a number of bytes.
func Get(b []byte, at, size int, big bool) (v uint64, ok bool) {
	if !fits(b, at, size) {
		return 0, false
	}
	for i := range size {
		v |= uint64(b[at+place(i, size, big)]) << (8 * i)
	}
	return v, true
}

// Put lays a number.
func Put(b []byte, at, size int, big bool, v uint64) (c []byte, ok bool) {
	if !fits(b, at, size) {
		return nil, false
	}
	c = clone(b)
	for i := range size {
		c[at+place(i, size, big)] = byte(v >> (8 * i))
	}
	return c, true
}

// Varint is a number's groups.
func Varint(v uint64) (b []byte) {
	for ; v >= 128; v >>= 7 {
		b = append(b, byte(v)|128)
	}
	return append(b, byte(v))
}

// Unvarint reads one.
func Unvarint(b []byte) (v uint64, n int) {
	for i, c := range b {
		// The tenth group has one digit left of the 64: this ends longer ones too.
		if i == 9 && c > 1 {
			return 0, 0
		}
		v |= uint64(c&127) << (7 * i)
		if c >= 128 {
			continue
		}
		// A last group of 0 would be a second encoding of the same number.
		if c == 0 && i > 0 {
			return 0, 0
		}
		return v, i + 1
	}
	return 0, 0
}

// Zig makes a number without a sign.
func Zig(v int) uint64 {
	return uint64(v)<<1 ^ uint64(int64(v)>>63)
}

// Zag turns it round.
func Zag(u uint64) int {
	return int(int64(u>>1) ^ -int64(u&1))
}

// isWidth is whether a number may have so many digits.
func isWidth(width int) bool {
	return width >= 1 && width <= 64
}

// Narrow is v in so many digits.
func Narrow(v, width int, signed bool) (u uint64, ok bool) {
	// Without a sign Widen of 64 digits answers numbers below 0 too, so they are refused here.
	if !isWidth(width) || v < 0 && !signed {
		return 0, false
	}
	spare := 64 - width
	u = uint64(v) << spare >> spare
	if Widen(u, width, signed) != v {
		return 0, false
	}
	return u, true
}

// Widen is such a number.
func Widen(u uint64, width int, signed bool) int {
	if !isWidth(width) {
		return 0
	}
	spare := 64 - width
	if signed {
		return int(int64(u<<spare) >> spare)
	}
	return int(u << spare >> spare)
}

// has is whether b has a bit k.
func has(b []byte, k int) bool {
	return k >= 0 && k>>3 < len(b)
}

// Test is a bit.
func Test(b []byte, k int) bool {
	return has(b, k) && b[k>>3]>>(k&7)&1 == 1
}

// Set sets one.
func Set(b []byte, k int, on bool) []byte {
	c := clone(b)
	if !has(b, k) {
		return c
	}
	bit := byte(1) << (k & 7)
	if on {
		c[k>>3] |= bit
	} else {
		c[k>>3] &^= bit
	}
	return c
}

// First is the first that is 0.
func First(b []byte, n int) int {
	for i, c := range b {
		// Maps of bits are mostly full at their beginning: whole bytes are passed over.
		if c == 255 {
			continue
		}
		k := i << 3
		for Test(b, k) {
			k++
		}
		if k < n {
			return k
		}
		return -1
	}
	return -1
}

// Count is how many are 1.
func Count(b []byte, n int) (ones int) {
	for i, c := range b {
		left := n - i<<3
		if left <= 0 {
			break
		}
		if left < 8 {
			c &= byte(1)<<left - 1
		}
		for ; c != 0; c &= c - 1 {
			ones++
		}
	}
	return ones
}
