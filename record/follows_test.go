package record_test

import (
	"bytes"
	"slices"
	"strings"
	"testing"

	"bollard/api"
	"bollard/record"
)

// dice are numbers without a pattern, the same ones at each run.
type dice uint64

func (x *dice) below(n int) int {
	*x = *x*6364136223846793005 + 1442695040888963407
	return int(uint64(*x) >> 33 % uint64(n))
}

// pick is one of l.
func (x *dice) pick(l ...int) int {
	return l[x.below(len(l))]
}

// bytes are n of them, small ones and great ones.
func (x *dice) bytes(n int) []byte {
	b := make([]byte, n)
	for i := range b {
		b[i] = byte(x.below(x.pick(2, 4, 8, 128, 256)))
	}
	return b
}

// time is one that may be.
func (x *dice) time() int {
	return (x.below(1<<30)<<20 | x.below(1<<20)) >> x.below(51)
}

// field is one that may be.
func (x *dice) field() field {
	switch x.below(4) {
	case 0:
		return field{}
	case 1:
		return field{true, string(x.bytes(x.pick(0, 1, 126, 127, 128, 129, 1999, 2000)))}
	}
	return field{true, string(x.bytes(x.below(40)))}
}

// record is one that may be.
func (x *dice) record() api.Record {
	return with(x.field(), x.field(), x.time(), x.below(100))
}

// tails are what may stand behind a record.
func tails() [][]byte {
	return [][]byte{nil, {0}, {1}, {127}, {128}, {255}, {0, 0, 0}, {3, 0, 0, 1, 'a', 1, 'b'}, bytes.Repeat([]byte{255}, 20), []byte(long(3000))}
}

// returns: what is written is read, whatever stands behind.
func returns(t *testing.T, r api.Record, first int, tail []byte) {
	t.Helper()
	b, e := record.Encode(r, first)
	if e != ok {
		t.Fatalf("P12.2: Encode(%+v, %d) = %d", short(r), first, e)
	}
	decodes(t, "P12.4", slices.Concat(b, tail), first, r, len(b), ok)
}

func TestDecodeOfEncode(t *testing.T) {
	for _, key := range rightFields() {
		for _, val := range rightFields() {
			for _, time := range []int{0, 63, 64, last} {
				for _, first := range []int{0, 64, last} {
					for _, tail := range tails() {
						returns(t, with(key, val, time, (len(key.text)+time)%100), first, tail)
					}
				}
			}
			if t.Failed() {
				return
			}
		}
	}
}

func TestDecodeOfEncodeByDice(t *testing.T) {
	x := dice(1)
	for range 20000 {
		returns(t, x.record(), x.time(), x.bytes(x.below(9)))
		if t.Failed() {
			return
		}
	}
}

// TestRowOfRecords: records one behind the other are read one after the other.
func TestRowOfRecords(t *testing.T) {
	x := dice(2)
	for range 200 {
		first := x.time()
		var l []api.Record
		var b []byte
		for range x.below(20) {
			r := x.record()
			c, _ := record.Encode(r, first)
			l, b = append(l, r), append(b, c...)
		}
		for i, want := range l {
			r, n, e := record.Decode(b, first)
			if r != want || e != ok {
				t.Fatalf("P12.4: record %d of a row = %+v %d, want %+v", i, short(r), e, short(want))
			}
			b = b[n:]
		}
		if len(b) != 0 {
			t.Fatalf("P12.4: %d bytes are left behind a row", len(b))
		}
	}
}

// spoil writes over b and its spare room.
func spoil(b []byte) {
	all := b[:cap(b)]
	for i := range all {
		all[i] ^= 0xff
	}
}

// TestDecodeKeepsNothing: the bytes stay as they are, their spare room too, and may be overwritten behind the call.
func TestDecodeKeepsNothing(t *testing.T) {
	for _, r := range []api.Record{
		with(field{true, "key"}, field{true, "value"}, 8, 1),
		with(field{true, long(2000)}, field{true, long(1999)}, 8, 1),
		with(field{}, field{true, "v"}, 8, 1),
	} {
		whole := append(append([]byte{9, 9}, laid(r, 5)...), 7, 7, 7)
		was := slices.Clone(whole)
		for end := 2; end <= len(whole); end++ {
			got, _, e := record.Decode(whole[2:end], 5)
			if !bytes.Equal(whole, was) {
				t.Fatalf("P12.4: Decode changed what it was handed: %.40x, want %.40x", whole, was)
			}
			if e != ok {
				continue
			}
			spoil(whole)
			if got != r {
				t.Fatalf("P12.4: what Decode answered changes with its argument: %+v", short(got))
			}
			spoil(whole)
		}
	}
}

// TestEncodeKeepsNothing: what Encode answered may be overwritten, its spare room too: neither the record nor another answer is touched.
func TestEncodeKeepsNothing(t *testing.T) {
	for _, r := range []api.Record{
		with(field{true, "key"}, field{true, "value"}, 8, 1),
		with(field{true, long(2000)}, field{true, long(2000)}, 8, 1),
		with(field{true, ""}, field{}, 5, 0),
		{},
	} {
		was := r
		was.Key, was.Val = strings.Clone(r.Key), strings.Clone(r.Val)
		one, _ := record.Encode(r, 5)
		two, _ := record.Encode(r, 5)
		spoil(one)
		if r != was {
			t.Errorf("P12.4: the record changes with what Encode answered: %+v", short(r))
		}
		if !bytes.Equal(two, laid(was, 5)) {
			t.Errorf("P12.4: two answers of Encode share memory: %.40x", two)
		}
		encodes(t, r, 5, laid(was, 5), ok)
	}
}

// TestDecodedIsItsOwn: of what was read and encoded again no bytes are shared with those it was read from.
func TestDecodedIsItsOwn(t *testing.T) {
	r := with(field{true, "key"}, field{true, "value"}, 8, 1)
	b := laid(r, 5)
	got, _, _ := record.Decode(b, 5)
	again, _ := record.Encode(got, 5)
	spoil(b)
	if !bytes.Equal(again, laid(r, 5)) {
		t.Errorf("P12.4: what was encoded again changes with the first bytes: %x", again)
	}
	spoil(again)
	if got != r {
		t.Errorf("P12.4: the record changes with its bytes: %+v", got)
	}
}
