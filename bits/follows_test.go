package bits_test

import (
	"bytes"
	"slices"
	"testing"

	"bollard/bits"
)

func TestGetOfPut(t *testing.T) {
	b := row(17)
	for _, v := range someNumbers() {
		for size := 1; size <= 8; size++ {
			least := v
			if size < 8 {
				least = v % (1 << (8 * size))
			}
			for _, order := range []bool{true, false} {
				for at := 0; at <= len(b)-size; at++ {
					c, ok := bits.Put(b, at, size, order, v)
					got, there := bits.Get(c, at, size, order)
					if !ok || !there || got != least {
						t.Fatalf("P1.5: Get of Put(%x, %d bytes at %d, %v) = %x %v %v", v, size, at, order, got, ok, there)
					}
					if len(c) != len(b) || !bytes.Equal(c[:at], b[:at]) || !bytes.Equal(c[at+size:], b[at+size:]) {
						t.Fatalf("P1.5: Put(%x, %d bytes at %d, %v) changed more: %x", v, size, at, order, c)
					}
				}
			}
		}
	}
}

func TestUnvarintOfVarint(t *testing.T) {
	for _, v := range someNumbers() {
		b := bits.Varint(v)
		for _, tail := range [][]byte{nil, {0}, {1}, {0x80}, {0xff, 0xff}} {
			if got, n := bits.Unvarint(slices.Concat(b, tail)); got != v || n != len(b) {
				t.Fatalf("P1.5: Unvarint of Varint(%d) and %x = %d %d", v, tail, got, n)
			}
		}
		for cut := range b {
			if got, n := bits.Unvarint(b[:cut]); got != 0 || n != 0 {
				t.Fatalf("P1.5: Unvarint of %d of %d bytes of Varint(%d) = %d %d", cut, len(b), v, got, n)
			}
		}
	}
}

func TestWidenOfNarrow(t *testing.T) {
	for width := 1; width <= 64; width++ {
		for _, signed := range []bool{true, false} {
			held := 0
			for _, v := range someInts() {
				u, ok := bits.Narrow(v, width, signed)
				if !ok {
					continue
				}
				held++
				if bits.Widen(u, width, signed) != v {
					t.Fatalf("P1.5: Widen of Narrow(%d, %d, %v) = %d", v, width, signed, bits.Widen(u, width, signed))
				}
			}
			if held == 0 {
				t.Fatalf("P1.5: Narrow(.., %d, %v) takes no number", width, signed)
			}
		}
	}
}

// lent is bytes as a caller may hold them: with room in front of them and spare room behind.
type lent struct {
	whole, part []byte
}

func lend() lent {
	whole := []byte{0xee, 0xee, 0xff, 0x81, 0x80, 0x01, 0x5a, 0x33, 0x00, 0x7f, 0xee, 0xee, 0xee, 0xee}
	return lent{whole, whole[2:10]}
}

// answers calls all that takes bytes, with arguments that are there and that are not; what answers bytes is told.
func answers(b []byte) (out [][]byte) {
	for k := -1; k <= 8*len(b)+1; k++ {
		out = append(out, bits.Set(b, k, true), bits.Set(b, k, false))
		bits.Test(b, k)
		bits.First(b, k)
		bits.Count(b, k)
	}
	for at := -1; at <= len(b)+1; at++ {
		for size := range 10 {
			for _, order := range []bool{true, false} {
				if c, ok := bits.Put(b, at, size, order, 0x1122334455667788); ok {
					out = append(out, c)
				}
				bits.Get(b, at, size, order)
			}
		}
		bits.Unvarint(b[max(0, min(at, len(b))):])
	}
	return out
}

func TestArgumentsStay(t *testing.T) {
	mine := lend()
	answers(mine.part)
	if want := lend().whole; !bytes.Equal(mine.whole, want) {
		t.Errorf("P1.6: what was handed in was changed: %x, want %x", mine.whole, want)
	}
}

// spoil writes over b and its spare room.
func spoil(b []byte) {
	all := b[:cap(b)]
	for i := range all {
		all[i] ^= 0xff
	}
}

func TestAnswersAreNew(t *testing.T) {
	mine := lend()
	for i, c := range answers(mine.part) {
		want := slices.Clone(c)
		spoil(mine.whole)
		if !bytes.Equal(c, want) {
			t.Fatalf("P1.6: answer %d changes with the argument: %x, want %x", i, c, want)
		}
		spoil(mine.whole)
		spoil(c)
		if !bytes.Equal(mine.whole, lend().whole) {
			t.Fatalf("P1.6: the argument changes with answer %d: %x", i, mine.whole)
		}
	}
}

func TestAnswersShareNothing(t *testing.T) {
	b := lend().part
	got, want := answers(b), answers(b)
	for i := range got {
		spoil(got[i])
		for j := i + 1; j < len(got); j++ {
			if !bytes.Equal(got[j], want[j]) {
				t.Fatalf("P1.6: answer %d changes with answer %d: %x, want %x", j, i, got[j], want[j])
			}
		}
	}
}

func TestVarintAnswersAreNew(t *testing.T) {
	for _, v := range someNumbers() {
		one, two := bits.Varint(v), bits.Varint(v)
		want := slices.Clone(two)
		spoil(one)
		if !bytes.Equal(two, want) || !bytes.Equal(bits.Varint(v), want) {
			t.Fatalf("P1.6: answers of Varint(%d) share memory", v)
		}
	}
}

func TestNothingIsKept(t *testing.T) {
	b := []byte{1, 2, 3}
	bits.Get(b, 0, 3, true)
	bits.First(b, 24)
	bits.Count(b, 24)
	bits.Unvarint(b)
	b[0], b[1], b[2] = 0xff, 0xff, 0x7f
	v, ok := bits.Get(b, 0, 3, true)
	u, n := bits.Unvarint(b)
	if v != 0xffff7f || !ok || bits.First(b, 24) != 23 || bits.Count(b, 24) != 23 || u != 1<<21-1 || n != 3 {
		t.Errorf("P1.6: an earlier call is seen: %x %v, %d, %d, %d %d", v, ok, bits.First(b, 24), bits.Count(b, 24), u, n)
	}
}
