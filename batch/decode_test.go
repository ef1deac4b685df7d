package batch_test

import (
	"bytes"
	"encoding/binary"
	"math"
	"slices"
	"strings"
	"testing"

	"bollard/api"
	"bollard/batch"
)

// tails are what may stand behind a batch.
func tails() [][]byte {
	return [][]byte{nil, {0}, {255}, make([]byte, 48), make([]byte, 7000), laid(good()), laid(sized(6000)), bytes.Repeat([]byte{255}, 100)}
}

func TestDecode(t *testing.T) {
	for _, b := range []api.Batch{good(), places(1, 0), places(100, 99), sized(5999), sized(6000), {Base: last, Span: 100, Producer: most, Seq: most, Records: row(100)}} {
		for _, tail := range tails() {
			decodes(t, "P13.3", slices.Concat(laid(b), tail), b, len(laid(b)), ok)
		}
	}
}

func TestDecodeNothing(t *testing.T) {
	refuses(t, nil)
	refuses(t, []byte{})
	for n := range 200 {
		refuses(t, make([]byte, n))
		refuses(t, bytes.Repeat([]byte{255}, n))
	}
	// All noughts have a right Sum of too few bytes, but no record.
	refuses(t, make([]byte, 7000))
}

// TestDecodeCut: a batch that is cut off at each of its bytes, its other bytes behind the cut or not there at all.
func TestDecodeCut(t *testing.T) {
	for _, b := range []api.Batch{good(), places(1, 0), sized(4100)} {
		p := laid(b)
		for n := range p {
			refuses(t, p[:n])
			refuses(t, p[:n:n])
		}
	}
}

// TestDecodeChanged: each byte changed in turn. Behind the Base all of it is seen; in the Base another one is told, or none.
func TestDecodeChanged(t *testing.T) {
	for _, b := range []api.Batch{good(), places(3, 0, 2)} {
		p := append(laid(b), 0, 0)
		for i := range p {
			for v := 1; v < 256; v++ {
				c := slices.Clone(p)
				c[i] ^= byte(v)
				want, n, e := read(c)
				switch {
				case i >= 8 && i < len(p)-2 && e != bad, i >= len(p)-2 && e != ok:
					t.Fatalf("the test's own word of a changed byte %d is %d", i, e)
				}
				decodes(t, "P13.3", c, want, n, e)
			}
			if t.Failed() {
				return
			}
		}
	}
}

// TestDecodeNumbers: numbers that may not be, or that are others, under a right Sum.
func TestDecodeNumbers(t *testing.T) {
	offset := []uint64{0, 1, 7, last - 1, last, last + 1, 1 << 56, 1 << 62, 1<<63 - 1, 1 << 63, 1<<63 + 7, math.MaxUint64 - 1, math.MaxUint64}
	small := []uint32{0, 1, 2, 3, 4, 5, 6, 99, 100, 101, 255, 256, 259, 1 << 16, 1<<16 + 3, 1 << 31, 1<<31 + 3, math.MaxUint32 - 1, math.MaxUint32}
	right := map[string]int{}
	try := func(what string, p parts) {
		want, n, e := read(p.bytes())
		decodes(t, "P13.3", p.bytes(), want, n, e)
		if e == ok {
			right[what]++
		}
	}
	for _, v := range offset {
		p := partsOf(good())
		p.base = v
		try("base", p)
		p = partsOf(good())
		p.producer = v
		try("producer", p)
		p = partsOf(good())
		p.seq = v
		try("seq", p)
		p = partsOf(good())
		p.time = v
		try("time", p)
	}
	for _, v := range small {
		p := partsOf(good())
		p.span = v
		try("span", p)
		p = partsOf(good())
		p.count = v
		try("count", p)
	}
	for what, n := range map[string]int{"base": 5, "producer": 9, "seq": 9, "time": 1, "span": 5, "count": 1} {
		if right[what] != n {
			t.Errorf("P13.3: %d of the numbers may be a batch's %s, not %d", right[what], what, n)
		}
	}
}

// TestDecodeTime: the time by which records are told is the first one's own.
func TestDecodeTime(t *testing.T) {
	b := good()
	for _, time := range []int{0, 4, 8, 9, 10, 300, last, last + 1, -1} {
		p := partsOf(b)
		p.time = uint64(time)
		p.records = nil
		for _, r := range b.Records {
			p.records = append(p.records, laidRecord(r, time)...)
		}
		if time == 9 {
			decodes(t, "P13.3", p.bytes(), b, len(p.bytes()), ok)
		} else {
			refuses(t, p.bytes())
		}
	}
}

// TestDecodeLength: how many bytes stand behind, too few, too many, or as many as four bytes may tell; with the old Sum and with one that is right of so many.
func TestDecodeLength(t *testing.T) {
	p := laid(good())
	long := append(slices.Clone(p), make([]byte, 9000)...)
	for _, length := range []uint32{0, 1, 3, 4, 5, 35, 36, 37, uint32(len(p) - 14), uint32(len(p) - 13), uint32(len(p) - 11), uint32(len(p) - 10), uint32(len(p)), 5987, 5988, 5989, 8000, 1 << 16, 1 << 31, math.MaxInt32, math.MaxUint32 - 12, math.MaxUint32} {
		for _, b := range [][]byte{p, long} {
			c := slices.Clone(b)
			binary.BigEndian.PutUint32(c[8:], length)
			refuses(t, c)
			if end := 12 + int(length); end >= 16 && end <= len(c) {
				binary.BigEndian.PutUint32(c[12:], sum(c[16:end]))
				refuses(t, c)
			}
		}
	}
	binary.BigEndian.PutUint32(long[8:], uint32(len(p)-12))
	decodes(t, "P13.3", long, good(), len(p), ok)
}

// TestDecodeRecords: records that are not written as they should be, or bytes left over, under a right Sum.
func TestDecodeRecords(t *testing.T) {
	one := "\x02\x00\x00\x01a"
	for _, x := range []struct {
		records string
		count   uint32
		right   bool
	}{
		{one, 1, true},
		{one + "\x02\x01\x00\x01b", 2, true},
		{"", 0, false},
		{"", 1, false},
		{one, 0, false},
		{one, 2, false},
		{one + "\x00", 1, false},
		{one + one, 1, false},
		{one + one, 2, false},
		{one + "\x02\x01\x00\x01b", 1, false},
		{one + "\x02\x01\x00\x01b", 3, false},
		{one + "\x02\x01\x00\x01", 2, false},
		{"\x02\x01\x00\x01a" + "\x02\x00\x00\x01b", 2, false},
		{"\x02\x09\x00\x01a", 1, true},
		{"\x02\x0a\x00\x01a", 1, false},
		{"\x02\x00\x02\x01a", 1, false},
		{"\x02\x00\x01\x01a", 1, false},
		{"\x02\x80\x00\x00\x01a", 1, false},
		{"\x02\x00\x80\x00\x01a", 1, false},
		{"\x02\x00\x00\x81\x00a", 1, false},
		{"\x04\x00\x00\x01a", 1, false},
		{"\x82\x00\x00\x01a", 1, false},
		{"\x02\x00\x00\x02a", 1, false},
		{"\x02\x00\x00\x00a", 1, false},
		{"\x02\x00\x00\xd1\x0f" + strings.Repeat("v", 2001), 1, false},
		{"\x02\x00\x00\xd0\x0f" + strings.Repeat("v", 2000), 1, true},
		{"\x02\x00\x00\xff\xff\xff\xff\xff\xff\xff\xff\xff\x01a", 1, false},
		{"\x00\x00\x00", 1, true},
		{"\x00\x00\x00", math.MaxUint32, false},
	} {
		p := parts{base: 4, producer: 1, seq: 2, time: 3, span: 10, count: x.count, records: []byte(x.records)}
		want, n, e := read(p.bytes())
		if (e == ok) != x.right {
			t.Fatalf("the test's own word of %x is %d", x.records, e)
		}
		decodes(t, "P13.3", p.bytes(), want, n, e)
	}
}

// TestDecodeTooBig: what would be a batch, but for its size, is none.
func TestDecodeTooBig(t *testing.T) {
	for n := 5995; n <= 6005; n++ {
		b := sized(n)
		if n <= 6000 {
			decodes(t, "P13.3", laid(b), b, n, ok)
		} else {
			refuses(t, laid(b))
		}
	}
	many := api.Batch{Span: 100, Records: row(101)}
	refuses(t, laid(many))
	many.Span = 101
	refuses(t, laid(many))
}

// TestDecodeTaken: bytes that are taken are those that Encode tells of what was read.
func TestDecodeTaken(t *testing.T) {
	x := dice(3)
	taken, refused := 0, 0
	for range 20000 {
		p := parts{time: uint64(x.below(3)), span: uint32(x.below(8)), count: uint32(x.below(4))}
		for range x.below(4) {
			p.records = append(p.records, byte(x.below(5)), byte(len(p.records)/3+x.below(2)), byte(x.below(3)*x.below(2)))
			for range x.below(3) * x.below(2) {
				p.records = append(p.records, byte(x.below(2)))
			}
		}
		b := append(p.bytes(), x.text(3)...)
		want, n, e := read(b)
		decodes(t, "P13.3", b, want, n, e)
		if t.Failed() {
			return
		}
		if e != ok {
			refused++
			continue
		}
		taken++
		got, n, _ := batch.Decode(b)
		if again, code := batch.Encode(got); code != ok || !bytes.Equal(again, b[:n]) {
			t.Fatalf("P13.3: Decode(%x) = %+v %d, but Encode of that is %x %d", b, got, n, again, code)
		}
	}
	if taken < 200 || refused < 200 {
		t.Errorf("P13.3: %d were taken, %d refused", taken, refused)
	}
}
