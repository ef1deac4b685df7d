package record_test

import (
	"bytes"
	"encoding/binary"
	"math"
	"slices"
	"testing"

	"bollard/api"
	"bollard/record"
)

func TestDecodeExamples(t *testing.T) {
	none := field{}
	for _, x := range []struct {
		b     string
		first int
		r     api.Record
		n     int
	}{
		{"\x01\x00\x00\x01a", 5, with(field{true, "a"}, none, 5, 0), 5},
		{"\x01\x00\x00\x01abc", 5, with(field{true, "a"}, none, 5, 0), 5},
		{"\x00\x00\x00", 0, api.Record{}, 3},
		{"\x00\x00\x00", last, with(none, none, last, 0), 3},
		{"\x00\x63\x01", 5, with(none, none, 4, 99), 3},
		{"\x02\x03\x03\x02bc", 7, with(none, field{true, "bc"}, 5, 3), 6},
		{"\x03\x01\x00\x00\x00", 0, with(field{true, ""}, field{true, ""}, 0, 1), 5},
		{"\x03\x02\xc8\x01\x01k\x02vw", 0, with(field{true, "k"}, field{true, "vw"}, 100, 2), 9},
		{"\x00\x00\xff\xff\xff\xff\xff\xff\xff\x03", last, with(none, none, 0, 0), 10},
		{"\x00\x00\x80\x80\x80\x80\x80\x80\x80\x04", 0, with(none, none, last, 0), 10},
	} {
		decodes(t, "P12.3", []byte(x.b), x.first, x.r, x.n, ok)
	}
}

func TestDecodeNothing(t *testing.T) {
	for _, first := range []int{least, -1, 0, last, last + 1, most} {
		refuses(t, nil, first)
		refuses(t, []byte{}, first)
	}
}

// TestDecodeHead: the first byte is one of four.
func TestDecodeHead(t *testing.T) {
	for head := range 256 {
		b := []byte{byte(head), 0, 0, 1, 'a', 1, 'b'}
		want, n, e := read(b, 0)
		if head > 3 && e != bad || head <= 3 && e != ok {
			t.Fatalf("P12.3: %x is taken for %d", b, e)
		}
		decodes(t, "P12.3", b, 0, want, n, e)
	}
}

func TestDecodeFirst(t *testing.T) {
	r := with(field{true, "a"}, field{true, "b"}, 5, 3)
	for _, first := range []int{least, least + 1, -last, -1, last + 1, most - 1, most} {
		refuses(t, []byte{0, 0, 0}, first)
		refuses(t, laid(r, first), first)
	}
	for _, first := range rightTimes() {
		decodes(t, "P12.3", laid(r, first), first, r, len(laid(r, first)), ok)
	}
}

// longer are a number's groups with groups that it does not need: of 0, or beyond ten.
func longer(v uint64) (out [][]byte) {
	b := binary.AppendUvarint(nil, v)
	for more := 1; more <= 12; more++ {
		c := slices.Clone(b)
		c[len(c)-1] |= 128
		c = append(c, bytes.Repeat([]byte{128}, more-1)...)
		out = append(out, append(c, 0))
	}
	return out
}

// noNumbers are bytes that no Varint is, or that end within one.
func noNumbers() [][]byte {
	full := bytes.Repeat([]byte{255}, 9)
	return [][]byte{
		{},
		{128},
		{255, 255, 255},
		full,
		append(slices.Clone(full), 2),
		append(slices.Clone(full), 127),
		append(slices.Clone(full), 129),
		append(slices.Clone(full), 255),
		append(slices.Clone(full), 128, 0),
		append(slices.Clone(full), 129, 1),
		bytes.Repeat([]byte{128}, 11),
		bytes.Repeat([]byte{255}, 40),
	}
}

// TestDecodeNumbers: each of a record's four numbers in more groups than it needs, or none at all.
func TestDecodeNumbers(t *testing.T) {
	r := with(field{true, "kk"}, field{true, "v"}, 7, 5)
	pieces := [][]byte{{3}, {5}, {4}, {2}, []byte("kk"), {1}, []byte("v")}
	if !bytes.Equal(slices.Concat(pieces...), laid(r, 5)) {
		t.Fatalf("the pieces are %x", slices.Concat(pieces...))
	}
	for _, at := range []int{1, 2, 3, 5} {
		v := uint64(pieces[at][0])
		for _, number := range slices.Concat(longer(v), noNumbers()) {
			changed := slices.Clone(pieces)
			changed[at] = number
			refuses(t, slices.Concat(changed[:at+1]...), 5)
			// Where the number does not end, what follows belongs to it: then it may be another one.
			b := slices.Concat(changed...)
			want, n, e := read(b, 5)
			if ends := len(number) > 0 && number[len(number)-1] < 128; ends && e != bad {
				t.Fatalf("P12.3: %x is taken for %d", b, e)
			}
			decodes(t, "P12.3", b, 5, want, n, e)
		}
	}
}

// TestDecodeOffs: numbers that are no Off, those too that are one in fewer digits.
func TestDecodeOffs(t *testing.T) {
	for off := range uint64(1000) {
		b := append(binary.AppendUvarint([]byte{2}, off), 0, 1, 'v')
		if off < 100 {
			decodes(t, "P12.3", b, 8, with(field{}, field{true, "v"}, 8, int(off)), len(b), ok)
		} else {
			refuses(t, b, 8)
		}
	}
	for _, off := range []uint64{1 << 8, 1<<8 + 5, 1 << 16, 1<<16 + 99, 1 << 31, 1 << 32, 1<<32 + 7, 1<<63 - 1, 1 << 63, 1<<63 + 1, 1<<63 + 99, math.MaxUint64 - 1, math.MaxUint64} {
		refuses(t, append(binary.AppendUvarint([]byte{2}, off), 0, 1, 'v'), 8)
	}
}

// TestDecodeTimes: how far a time is from first, up to the greatest number there is: only what leads to a time that may be is read.
func TestDecodeTimes(t *testing.T) {
	var apart []uint64
	for _, v := range []uint64{0, 1 << 49, 1 << 50, 1 << 51, 1 << 52, 1 << 62, 1 << 63, 1<<64 - 1<<51, 1<<64 - 1<<50} {
		for d := range uint64(8) {
			apart = append(apart, v+d, v-d)
		}
	}
	right, refused := 0, 0
	for _, first := range rightTimes() {
		for _, u := range apart {
			b := append(binary.AppendUvarint([]byte{1, 9}, u), 1, 'k')
			want, n, e := read(b, first)
			decodes(t, "P12.3", b, first, want, n, e)
			if e == ok {
				right++
			} else {
				refused++
			}
		}
	}
	if right == 0 || refused == 0 {
		t.Errorf("P12.3: %d were read, %d refused", right, refused)
	}
}

// TestDecodeTimeEdges: one step beyond the times that may be.
func TestDecodeTimeEdges(t *testing.T) {
	for _, first := range rightTimes() {
		for _, x := range []struct {
			time int
			may  bool
		}{{-1, false}, {0, true}, {last, true}, {last + 1, false}} {
			r := with(field{}, field{}, x.time, 0)
			if x.may {
				decodes(t, "P12.3", laid(r, first), first, r, len(laid(r, first)), ok)
			} else {
				refuses(t, laid(r, first), first)
			}
		}
	}
}

// TestDecodeLengths: lengths of a key and a value at their edges, and beyond what is left.
func TestDecodeLengths(t *testing.T) {
	room := long(4000)
	for _, size := range []uint64{0, 1, 127, 128, 1999, 2000, 2001, 2002, 3999, 4000, 4001, 1 << 16, 1 << 31, 1 << 32, 1<<32 + 1, 1<<63 - 1, 1 << 63, 1<<63 + 1, math.MaxUint64 - 2000, math.MaxUint64} {
		for _, have := range []int{0, 1, 126, 127, 128, 1999, 2000, 2001, 4000} {
			for head := byte(1); head <= 3; head++ {
				b := append(binary.AppendUvarint([]byte{head, 0, 0}, size), room[:have]...)
				want, n, e := read(b, 3)
				if size > 2000 && e != bad {
					t.Fatalf("P12.3: a length of %d is taken for %d", size, e)
				}
				decodes(t, "P12.3", b, 3, want, n, e)
			}
			b := append(binary.AppendUvarint([]byte{3, 0, 0, 2, 'k', 'k'}, size), room[:have]...)
			if size <= 2000 && size <= uint64(have) {
				decodes(t, "P12.3", b, 3, with(field{true, "kk"}, field{true, room[:size]}, 3, 0), 6+len(binary.AppendUvarint(nil, size))+int(size), ok)
			} else {
				refuses(t, b, 3)
			}
		}
	}
}

// TestDecodeCut: a record that is cut off at each of its bytes, its other bytes behind the cut or not there at all.
func TestDecodeCut(t *testing.T) {
	for _, key := range rightFields() {
		for _, val := range rightFields() {
			for _, first := range []int{0, 70, last} {
				b := laid(with(key, val, 70, 99), first)
				for n := range b {
					refuses(t, b[:n], first)
					refuses(t, b[:n:n], first)
				}
				if t.Failed() {
					return
				}
			}
		}
	}
}

// TestDecodeAllShort: all rows of up to five bytes of those that tell something.
func TestDecodeAllShort(t *testing.T) {
	telling := []byte{0, 1, 2, 3, 4, 5, 99, 100, 127, 128, 129, 200, 255}
	var b []byte
	var all func(left int)
	right := 0
	all = func(left int) {
		for _, first := range []int{0, 2, last} {
			want, n, e := read(b, first)
			decodes(t, "P12.3", b, first, want, n, e)
			if e == ok {
				right++
			}
		}
		if left == 0 || t.Failed() {
			return
		}
		for _, v := range telling {
			b = append(b, v)
			all(left - 1)
			b = b[:len(b)-1]
		}
	}
	all(5)
	if right == 0 {
		t.Errorf("P12.3: no row was a record")
	}
}

// TestDecodeTaken: bytes that are taken are those that Encode tells of what was read.
func TestDecodeTaken(t *testing.T) {
	x := dice(3)
	taken := 0
	for range 200000 {
		b := x.bytes(x.below(16))
		if len(b) > 0 && x.below(4) > 0 {
			b[0] &= 3
		}
		first := x.pick(0, 3, 40, last, last-3, -1, last+1)
		r, n, e := record.Decode(b, first)
		want, size, code := read(b, first)
		if r != want || n != size || e != code {
			t.Fatalf("P12.3: Decode(%x, %d) = %+v %d %d, want %+v %d %d", b, first, r, n, e, want, size, code)
		}
		if e != ok {
			continue
		}
		taken++
		if again, e := record.Encode(r, first); e != ok || !bytes.Equal(again, b[:n]) {
			t.Fatalf("P12.3: Decode(%x, %d) = %+v %d, but Encode of that is %x %d", b, first, r, n, again, e)
		}
	}
	if taken < 1000 {
		t.Errorf("P12.3: only %d rows were taken", taken)
	}
}

// TestDecodeOneByteChanged: a record with one byte changed is another one, or none.
func TestDecodeOneByteChanged(t *testing.T) {
	for _, r := range []api.Record{
		with(field{true, "key"}, field{true, "value"}, 1000, 42),
		with(field{true, ""}, field{}, last, 99),
		with(field{}, field{true, long(130)}, 0, 0),
		with(field{}, field{}, 5, 0),
	} {
		for _, first := range []int{0, 900, last} {
			b := append(laid(r, first), 1, 2, 3)
			for i := range b {
				for v := range 256 {
					c := slices.Clone(b)
					c[i] = byte(v)
					want, n, e := read(c, first)
					decodes(t, "P12.3", c, first, want, n, e)
				}
			}
		}
	}
}
