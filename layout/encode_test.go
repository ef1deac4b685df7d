package layout_test

import (
	"bytes"
	"encoding/binary"
	"hash/crc32"
	"math"
	"testing"

	"bollard/api"
	"bollard/layout"
)

// with is a plan of these numbers, in the order of a superblock.
func with(v [7]int) api.Plan {
	return api.Plan{Blocks: v[0], Inodes: v[1], InodeMap: v[2], BlockMap: v[3], Table: v[4], Data: v[5], DataCount: v[6]}
}

// numbers are those of a plan.
func numbers(p api.Plan) [7]int {
	return [7]int{p.Blocks, p.Inodes, p.InodeMap, p.BlockMap, p.Table, p.Data, p.DataCount}
}

// summed is 512 bytes that begin with these 36, behind which their sum stands, as Go's own library tells it.
func summed(head []byte) []byte {
	b := make([]byte, 512)
	copy(b, head[:36])
	binary.LittleEndian.PutUint32(b[36:], crc32.Checksum(b[:36], crc32.MakeTable(crc32.Castagnoli)))
	return b
}

// laid is what Encode must tell.
func laid(p api.Plan) []byte {
	head := []byte("BOLLARDS")
	for _, v := range numbers(p) {
		head = binary.LittleEndian.AppendUint32(head, uint32(v))
	}
	return summed(head)
}

// encoded is that, but of the Encode that is tested.
func encoded(t *testing.T, p api.Plan) []byte {
	t.Helper()
	b := layout.Encode(p)
	if want := laid(p); !bytes.Equal(b, want) {
		t.Fatalf("P6.2: Encode(%v) = %d bytes, %x, want %x", p, len(b), b, want)
	}
	return b
}

func TestEncodeExample(t *testing.T) {
	b := layout.Encode(planned(t, 1000, 64))
	head := []byte{
		'B', 'O', 'L', 'L', 'A', 'R', 'D', 'S',
		0xe8, 3, 0, 0, // 1000
		64, 0, 0, 0,
		246, 0, 0, 0,
		247, 0, 0, 0,
		248, 0, 0, 0,
		0, 1, 0, 0, // 256
		0xe8, 2, 0, 0, // 744
		0xc3, 0x58, 0x57, 0x6e, // the sum of these 36 bytes
	}
	if len(b) != 512 || !bytes.Equal(b[:40], head) {
		t.Errorf("P6.2: Encode of Make(1000, 64) = %d bytes, %x, want 512 that begin with %x", len(b), b, head)
	}
	for i := 40; i < len(b); i++ {
		if b[i] != 0 {
			t.Errorf("P6.2: byte %d of it is %x, want 0", i, b[i])
		}
	}
}

// TestEncodeOneField: each field alone, so that its place is seen.
func TestEncodeOneField(t *testing.T) {
	for field := range 7 {
		for _, x := range []struct {
			v    int
			want [4]byte
		}{
			{0, [4]byte{}},
			{1, [4]byte{1}},
			{0xf1, [4]byte{0xf1}},
			{0xf201, [4]byte{1, 0xf2}},
			{0xf30201, [4]byte{1, 2, 0xf3}},
			{0xf4030201, [4]byte{1, 2, 3, 0xf4}},
			{0xff000000, [4]byte{0, 0, 0, 0xff}},
			{math.MaxUint32, [4]byte{0xff, 0xff, 0xff, 0xff}},
			{1 << 32, [4]byte{}},
			{0x0506070804030201, [4]byte{1, 2, 3, 4}},
			{math.MaxInt, [4]byte{0xff, 0xff, 0xff, 0xff}},
			{math.MaxInt - 1, [4]byte{0xfe, 0xff, 0xff, 0xff}},
			{-1, [4]byte{0xff, 0xff, 0xff, 0xff}},
			{-2, [4]byte{0xfe, 0xff, 0xff, 0xff}},
			{-256, [4]byte{0, 0xff, 0xff, 0xff}},
			{-1 << 32, [4]byte{}},
			{math.MinInt, [4]byte{}},
			{math.MinInt + 7, [4]byte{7}},
		} {
			var v [7]int
			v[field] = x.v
			head := append([]byte("BOLLARDS"), make([]byte, 28)...)
			copy(head[8+4*field:], x.want[:])
			if b, want := layout.Encode(with(v)), summed(head); !bytes.Equal(b, want) {
				t.Errorf("P6.2: Encode(%v) = %d bytes, %x, want %x", with(v), len(b), b, want)
			}
		}
	}
}

func TestEncodeManyFields(t *testing.T) {
	encoded(t, api.Plan{})
	encoded(t, with([7]int{0x01020304, 0x11121314, 0x21222324, 0x31323334, 0x41424344, 0x51525354, 0x61626364}))
	encoded(t, with([7]int{-1, -2, -3, -4, -5, -6, -7}))
	encoded(t, with([7]int{math.MinInt, math.MaxInt, math.MinInt + 1, math.MaxInt - 1, 1 << 62, -1 << 62, 1 << 40}))
	for _, n := range someBlocks() {
		for _, inodes := range someInodes() {
			if p, e := layout.Make(n, inodes); e == api.OK {
				encoded(t, p)
			}
		}
	}
}

// TestEncodeIsNew: what was answered is nobody else's.
func TestEncodeIsNew(t *testing.T) {
	p := planned(t, 1000, 64)
	a := encoded(t, p)
	b := encoded(t, p)
	for i := range a[:cap(a)] {
		a[:cap(a)][i] ^= 255
	}
	if !bytes.Equal(b, laid(p)) {
		t.Error("P6.2: two answers of Encode share memory")
	}
	encoded(t, p)
	if want := (api.Plan{Blocks: 1000, Inodes: 64, InodeMap: 246, BlockMap: 247, Table: 248, Data: 256, DataCount: 744}); p != want {
		t.Errorf("P6.2: Encode made %v of the plan", p)
	}
}
