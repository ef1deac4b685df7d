package layout_test

import (
	"bytes"
	"encoding/binary"
	"math"
	"slices"
	"testing"

	"bollard/api"
	"bollard/layout"
)

// bad must be refused.
func bad(t *testing.T, what string, b []byte) {
	t.Helper()
	if p, e := layout.Decode(b); p != (api.Plan{}) || e != api.ErrBad {
		t.Errorf("P6.3: Decode of %s = %v %d, want %d", what, p, e, api.ErrBad)
	}
}

// good must be read as that plan.
func good(t *testing.T, what string, b []byte, want api.Plan) {
	t.Helper()
	if p, e := layout.Decode(b); p != want || e != api.OK {
		t.Errorf("P6.3: Decode of %s = %v %d, want %v", what, p, e, want)
	}
}

func TestDecodeExample(t *testing.T) {
	want := api.Plan{Blocks: 1000, Inodes: 64, InodeMap: 246, BlockMap: 247, Table: 248, Data: 256, DataCount: 744}
	good(t, "the bytes of Make(1000, 64)", laid(want), want)
	good(t, "Encode of Make(1000, 64)", layout.Encode(want), want)
}

func TestDecodeOtherLengths(t *testing.T) {
	for _, inodes := range []int{1, 64, 4096} {
		b := laid(planned(t, 1000, inodes))
		bad(t, "nil", nil)
		bad(t, "nothing", []byte{})
		for n := range 512 {
			bad(t, "a shorter one", b[:n])
			bad(t, "a shorter one, the room behind it cut off", b[:n:n])
		}
		bad(t, "one with a nought behind it", append(slices.Clone(b), 0))
		bad(t, "one with a byte behind it", append(slices.Clone(b), 7))
		bad(t, "one with a nought ahead of it", append([]byte{0}, b...))
		bad(t, "two", slices.Concat(b, b))
		bad(t, "one in a longer row", append(slices.Clone(b), make([]byte, 70000)...))
	}
}

func TestDecodeOtherBytes(t *testing.T) {
	for _, v := range []byte{0, 1, 'B', 0xff} {
		for _, n := range []int{1, 8, 36, 40, 511, 512, 513, 1024} {
			bad(t, "bytes all the same", bytes.Repeat([]byte{v}, n))
		}
	}
	noise, state := make([]byte, 512), uint32(1)
	for range 200 {
		for i := range noise {
			state = state*1664525 + 1013904223
			noise[i] = byte(state >> 24)
		}
		bad(t, "noise", noise)
	}
}

// TestDecodeOneByteChanged: each byte, to each other value, the sum's and the noughts' too.
func TestDecodeOneByteChanged(t *testing.T) {
	for _, p := range []api.Plan{planned(t, 1000, 64), planned(t, 65536, 4096), planned(t, 250, 1)} {
		b := laid(p)
		for i, old := range b {
			for x := 1; x < 256; x++ {
				b[i] = old ^ byte(x)
				if q, e := layout.Decode(b); q != (api.Plan{}) || e != api.ErrBad {
					t.Fatalf("P6.3: Decode of Encode(%v) with the byte %d %02x for %02x = %v %d, want %d", p, i, b[i], old, q, e, api.ErrBad)
				}
			}
			b[i] = old
		}
		good(t, "what was put right again", b, p)
	}
}

// TestDecodeMended: each byte that the sum tells of changed, and the sum right: only what some Make told is read.
func TestDecodeMended(t *testing.T) {
	read := 0
	for _, p := range []api.Plan{planned(t, 1000, 64), planned(t, 65536, 4096), planned(t, 250, 1)} {
		for i := range 36 {
			for x := 1; x < 256; x++ {
				b := laid(p)
				b[i] ^= byte(x)
				b = summed(b)
				inodes := int(binary.LittleEndian.Uint32(b[12:]))
				q, e := counted(p.Blocks, inodes)
				// Of another count of inodes that has as great a table all else is the same.
				if i >= 12 && i < 16 && e == api.OK && q.Data == p.Data {
					good(t, "one with other inodes", b, q)
					read++
				} else {
					bad(t, "one with another byte and the right sum", b)
				}
			}
		}
	}
	// 57 to 63 for 64, 2 to 8 for 1; no byte of 4096 alone turns it into one of 4089 to 4095.
	if read != 7+7 {
		t.Errorf("P6.3: %d plans of other inodes were read, want 14", read)
	}
}

func TestDecodeOtherInodes(t *testing.T) {
	p := planned(t, 1000, 64)
	for inodes := range 200 {
		p.Inodes = inodes
		if inodes >= 57 && inodes <= 64 {
			good(t, "a plan that some Make told", laid(p), p)
		} else {
			bad(t, "a plan of too many inodes or too few for its table", laid(p))
		}
	}
}

// TestDecodeOneFieldOff: numbers that no Make tells together.
func TestDecodeOneFieldOff(t *testing.T) {
	for _, p := range []api.Plan{planned(t, 1000, 64), planned(t, 4346, 8), planned(t, 65536, 4096), planned(t, 251, 9)} {
		for field := range 7 {
			for _, by := range []int{-4096, -512, -8, -1, 1, 8, 9, 512, 4096, 65536, 1 << 24, 1 << 31} {
				v := numbers(p)
				v[field] += by
				if q, e := counted(v[0], v[1]); e == api.OK && q == with(v) {
					good(t, "a plan that some Make told", laid(q), q)
				} else {
					bad(t, "a plan with one number off", laid(with(v)))
				}
			}
		}
	}
}

func TestDecodeNoMake(t *testing.T) {
	for _, v := range [][7]int{
		{},
		{249, 1, 246, 247, 248, 249, 0},                      // no data block
		{1, 1, 246, 247, 248, 249, -248},                     // no room at all
		{1000, 0, 246, 247, 248, 248, 752},                   // no inode
		{1000, 0, 246, 246, 247, 247, 753},                   // no inode, and no map of them
		{65537, 8, 246, 247, 263, 264, 65273},                // a block too many
		{2000, 4097, 246, 248, 249, 762, 1238},               // an inode too many
		{1000, 64, 246, 247, 249, 257, 743},                  // a map greater than it must be
		{4346, 8, 246, 247, 248, 249, 4097},                  // a map too small by one bit
		{1000, 64, 246, 247, 248, 257, 743},                  // a table greater than it must be
		{1000, 64, 246, 247, 248, 257, 744},                  // a hole
		{1000, 64, 246, 247, 248, 256, 743},                  // the last block left out
		{1000, 64, 247, 246, 248, 256, 744},                  // another order
		{1000, 64, 246, 248, 247, 256, 744},                  // another order
		{1000, 64, 245, 246, 247, 255, 745},                  // on the superblock
		{1000, 64, 0, 1, 2, 10, 990},                         // on the journal
		{-1000, 64, 246, 247, 248, 256, 744},                 // below nought
		{-1, -1, -1, -1, -1, -1, -1},                         // all ones
		{math.MaxInt32, 64, 246, 247, 248, 256, 744},         // far beyond
		{1 << 31, 1 << 31, 246, 247, 248, 256, 744},          // far beyond
		{math.MaxUint32, math.MaxUint32, 246, 247, 248, 256}, // far beyond
	} {
		b := laid(with(v))
		if p, e := layout.Decode(b); p != (api.Plan{}) || e != api.ErrBad {
			t.Errorf("P6.3: Decode of Encode(%v) = %v %d, want %d", v, p, e, api.ErrBad)
		}
	}
}

// TestDecodeMagic: another word with a sum that is right.
func TestDecodeMagic(t *testing.T) {
	p := planned(t, 1000, 64)
	for _, word := range []string{"BOLLARDJ", "bollards", "BOLLARD\x00", "\x00\x00\x00\x00\x00\x00\x00\x00", "SDRALLOB"} {
		b := laid(p)
		copy(b, word)
		bad(t, "one of another magic word", summed(b))
	}
}

// TestDecodeSum: sums of others, or at another place.
func TestDecodeSum(t *testing.T) {
	b := laid(planned(t, 1000, 64))
	sum := binary.LittleEndian.Uint32(b[36:])
	for _, other := range []uint32{0, ^sum, sum + 1, sum ^ 1<<31, math.MaxUint32} {
		binary.LittleEndian.PutUint32(b[36:], other)
		bad(t, "one of another sum", b)
	}
	binary.BigEndian.PutUint32(b[36:], sum)
	bad(t, "one with the greatest byte of its sum first", b)
	binary.LittleEndian.PutUint32(b[36:], 0)
	binary.LittleEndian.PutUint32(b[508:], sum)
	bad(t, "one with its sum at the end", b)
}

// TestDecodeBeyondFourBytes: Encode leaves the greater bytes out, so these are the bytes of what Make told.
func TestDecodeBeyondFourBytes(t *testing.T) {
	p := planned(t, 1000, 64)
	for field := range 7 {
		for _, by := range []int{1 << 32, -1 << 32, 1 << 62, math.MinInt} {
			v := numbers(p)
			v[field] += by
			good(t, "a plan with greater bytes that are left out", encoded(t, with(v)), p)
		}
	}
}

// TestDecodeChangesNothing: neither the bytes that are handed in, nor what stands beside them.
func TestDecodeChangesNothing(t *testing.T) {
	whole := bytes.Repeat([]byte{0xee}, 1600)
	p := planned(t, 1000, 64)
	copy(whole[500:], laid(p))
	before := slices.Clone(whole)
	good(t, "one with spare room", whole[500:1012], p)
	bad(t, "one that is too short", whole[500:1011])
	bad(t, "one that is too long", whole[500:1013])
	bad(t, "bytes of one value", whole[:512])
	if !bytes.Equal(whole, before) {
		t.Error("P6.3: Decode changed what was handed in, or its spare room")
	}
}
