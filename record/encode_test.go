package record_test

import (
	"strings"
	"testing"

	"bollard/api"
	"bollard/record"
)

func TestCheckEdges(t *testing.T) {
	none, some := field{}, field{true, "a"}
	full, over := field{true, long(2000)}, field{true, long(2001)}
	for _, x := range []struct {
		r    api.Record
		want api.Errno
	}{
		{api.Record{}, ok},
		{with(some, some, 0, 0), ok},
		{with(some, none, 5, 0), ok},
		{with(none, some, 5, 0), ok},
		{with(field{true, ""}, field{true, ""}, 5, 0), ok},
		{with(field{true, "\x00\xff/\n"}, field{true, "\xc3\x28"}, 5, 0), ok},
		{with(field{false, "a"}, none, 0, 0), arg},
		{with(none, field{false, "a"}, 0, 0), arg},
		{with(field{false, "\x00"}, some, 0, 0), arg},
		{with(some, field{false, "\x00"}, 0, 0), arg},
		{with(none, none, -1, 0), arg},
		{with(none, none, 0, 0), ok},
		{with(none, none, last, 0), ok},
		{with(none, none, last+1, 0), arg},
		{with(none, none, least, 0), arg},
		{with(none, none, most, 0), arg},
		{with(none, none, 0, -1), arg},
		{with(none, none, 0, 99), ok},
		{with(none, none, 0, 100), arg},
		{with(none, none, 0, least), arg},
		{with(none, none, 0, most), arg},
		{with(full, full, last, 99), ok},
		{with(over, none, 0, 0), tooBig},
		{with(none, over, 0, 0), tooBig},
		{with(over, over, 0, 0), tooBig},
		{with(field{true, long(100000)}, none, 0, 0), tooBig},
	} {
		checks(t, x.r, x.want)
	}
}

// TestCheckOrder: of a record in which two things are wrong ErrArg is told ahead of ErrBig.
func TestCheckOrder(t *testing.T) {
	none, over := field{}, field{true, long(2001)}
	for _, r := range []api.Record{
		with(over, none, -1, 0),
		with(over, none, last+1, 0),
		with(none, over, 0, -1),
		with(none, over, 0, 100),
		with(over, field{false, "a"}, 0, 0),
		with(field{false, "a"}, over, 0, 0),
		with(field{false, long(2001)}, none, 0, 0),
		with(none, field{false, long(2001)}, 0, 0),
		with(over, over, most, least),
	} {
		checks(t, r, arg)
	}
}

// TestCheckAndEncode: all fields, times, offsets and firsts at their edges, with each other.
func TestCheckAndEncode(t *testing.T) {
	for _, key := range someFields() {
		for _, val := range someFields() {
			for _, time := range someTimes() {
				for _, off := range someOffs() {
					r := with(key, val, time, off)
					e := wrong(r)
					checks(t, r, e)
					for _, first := range []int{-1, 0, last, last + 1} {
						switch {
						case e != ok:
							encodes(t, r, first, nil, e)
						case first < 0 || first > last:
							encodes(t, r, first, nil, arg)
						default:
							encodes(t, r, first, laid(r, first), ok)
						}
					}
				}
			}
			if t.Failed() {
				return
			}
		}
	}
}

func TestEncodeExamples(t *testing.T) {
	none := field{}
	for _, x := range []struct {
		r     api.Record
		first int
		b     string
	}{
		{with(field{true, "a"}, none, 5, 0), 5, "\x01\x00\x00\x01a"},
		{api.Record{}, 0, "\x00\x00\x00"},
		{with(none, none, 5, 99), 4, "\x00\x63\x02"},
		{with(none, none, 4, 99), 5, "\x00\x63\x01"},
		{with(none, field{true, "bc"}, 5, 3), 7, "\x02\x03\x03\x02bc"},
		{with(field{true, ""}, none, 0, 1), 0, "\x01\x01\x00\x00"},
		{with(none, field{true, ""}, 0, 1), 0, "\x02\x01\x00\x00"},
		{with(field{true, ""}, field{true, ""}, 0, 1), 0, "\x03\x01\x00\x00\x00"},
		{with(field{true, "k"}, field{true, "vw"}, 100, 2), 0, "\x03\x02\xc8\x01\x01k\x02vw"},
		{with(field{true, "\x80\x00"}, field{true, "\xff"}, 0, 0), 64, "\x03\x00\x7f\x02\x80\x00\x01\xff"},
		{with(none, none, 0, 0), last, "\x00\x00\xff\xff\xff\xff\xff\xff\xff\x03"},
		{with(none, none, last, 0), 0, "\x00\x00\x80\x80\x80\x80\x80\x80\x80\x04"},
		{with(none, none, last, 0), last, "\x00\x00\x00"},
		{with(field{true, strings.Repeat("x", 127)}, none, 0, 0), 0, "\x01\x00\x00\x7f" + strings.Repeat("x", 127)},
		{with(field{true, strings.Repeat("x", 128)}, none, 0, 0), 0, "\x01\x00\x00\x80\x01" + strings.Repeat("x", 128)},
		{with(none, field{true, strings.Repeat("x", 2000)}, 0, 0), 0, "\x02\x00\x00\xd0\x0f" + strings.Repeat("x", 2000)},
	} {
		encodes(t, x.r, x.first, []byte(x.b), ok)
	}
}

// TestEncodeFirst: a first that may not be is ErrArg, behind whatever Check tells.
func TestEncodeFirst(t *testing.T) {
	good, over, early := with(field{true, "a"}, field{}, 5, 0), with(field{true, long(2001)}, field{}, 5, 0), with(field{}, field{}, -1, 0)
	for _, first := range []int{least, -last, -1, last + 1, most} {
		encodes(t, good, first, nil, arg)
		encodes(t, over, first, nil, tooBig)
		encodes(t, early, first, nil, arg)
	}
	for _, first := range []int{0, last} {
		encodes(t, good, first, laid(good, first), ok)
		encodes(t, over, first, nil, tooBig)
		encodes(t, early, first, nil, arg)
	}
}

func TestEncodeTimesApart(t *testing.T) {
	for _, first := range rightTimes() {
		for _, time := range rightTimes() {
			r := with(field{true, "k"}, field{}, time, 7)
			encodes(t, r, first, laid(r, first), ok)
		}
	}
}

func TestEncodeAllOffs(t *testing.T) {
	for off := range 100 {
		r := with(field{}, field{true, "v"}, 9, off)
		encodes(t, r, 9, []byte{2, byte(off), 0, 1, 'v'}, ok)
	}
}

// TestEncodeAllLengths: each length of a key and a value, of bytes of all values.
func TestEncodeAllLengths(t *testing.T) {
	for n := range 2001 {
		for _, r := range []api.Record{
			with(field{true, long(n)}, field{}, 1, 0),
			with(field{}, field{true, long(n)}, 1, 0),
			with(field{true, long(n)}, field{true, long(2000 - n)}, 1, 0),
		} {
			encodes(t, r, 0, laid(r, 0), ok)
		}
	}
}

// TestSameAnswers: nothing hangs on an earlier call.
func TestSameAnswers(t *testing.T) {
	r := with(field{true, "key"}, field{true, "val"}, 77, 8)
	b := laid(r, 70)
	for range 3 {
		checks(t, r, ok)
		encodes(t, r, 70, b, ok)
		decodes(t, "P12.3", b, 70, r, len(b), ok)
		record.Check(with(field{false, "a"}, field{}, 0, 0))
		record.Encode(with(field{true, long(2001)}, field{}, 0, 0), 3)
		record.Encode(api.Record{}, 0)
		record.Decode([]byte{3, 1, 2, 3}, 4)
		record.Decode(nil, -1)
	}
}
