package record_test

import (
	"bytes"
	"encoding/binary"
	"math"
	"math/big"
	"strings"
	"testing"

	"bollard/api"
	"bollard/record"
)

// Short names of errors and edges, for rows of calls.
const (
	ok     = api.OK
	arg    = api.ErrArg
	tooBig = api.ErrBig
	bad    = api.ErrBad
	least  = math.MinInt
	most   = math.MaxInt
	last   = 1 << 50 // the greatest time
)

// long is n bytes of all values.
func long(n int) string {
	b := make([]byte, n)
	for i := range b {
		b[i] = byte(251*i + 128)
	}
	return string(b)
}

// field is a key or a value as a record tells it, whether or not it may be so.
type field struct {
	has  bool
	text string
}

// with is a record of these.
func with(key, val field, time, off int) api.Record {
	return api.Record{HasKey: key.has, Key: key.text, HasVal: val.has, Val: val.text, Time: time, Off: off}
}

// someFields are fields at the edges of lengths; the last three may not be.
func someFields() []field {
	out := []field{{false, ""}}
	for _, n := range []int{0, 1, 127, 128, 2000, 2001} {
		out = append(out, field{true, long(n)})
	}
	return append(out, field{false, "a"}, field{false, long(2001)})
}

// rightFields are those that may be.
func rightFields() []field {
	return someFields()[:6]
}

func someTimes() []int {
	return []int{least, least + 1, -last, -1, 0, 1, 63, 64, last - 1, last, last + 1, most - 1, most}
}

func rightTimes() []int {
	return []int{0, 1, 5, 63, 64, 65, 8191, 8192, 1 << 32, 1 << 49, last - 1, last}
}

func someOffs() []int {
	return []int{least, -100, -1, 0, 1, 99, 100, 128, 1 << 32, most}
}

// wrong is what P12.1 says of a record, one word after the other.
func wrong(r api.Record) api.Errno {
	if !r.HasKey && len(r.Key) != 0 {
		return arg
	}
	if !r.HasVal && len(r.Val) != 0 {
		return arg
	}
	if r.Time < 0 || r.Time > 1125899906842624 {
		return arg
	}
	if r.Off < 0 || r.Off > 99 {
		return arg
	}
	if len(r.Key) > 2000 || len(r.Val) > 2000 {
		return tooBig
	}
	return ok
}

// laid is a record's bytes, its numbers laid by the library.
func laid(r api.Record, first int) []byte {
	b := []byte{0}
	if r.HasKey {
		b[0]++
	}
	if r.HasVal {
		b[0] += 2
	}
	b = binary.AppendUvarint(b, uint64(r.Off))
	b = binary.AppendVarint(b, int64(r.Time)-int64(first))
	if r.HasKey {
		b = append(binary.AppendUvarint(b, uint64(len(r.Key))), r.Key...)
	}
	if r.HasVal {
		b = append(binary.AppendUvarint(b, uint64(len(r.Val))), r.Val...)
	}
	return b
}

// parse takes bytes for a record in the plainest way: what it answers is one only if its bytes are those.
func parse(b []byte, first int) (r api.Record, whole bool) {
	if len(b) == 0 {
		return r, false
	}
	left := b[1:]
	number := func() (uint64, bool) {
		v, n := binary.Uvarint(left)
		if n <= 0 {
			return 0, false
		}
		left = left[n:]
		return v, true
	}
	text := func() (string, bool) {
		v, there := number()
		if !there || v > uint64(len(left)) {
			return "", false
		}
		s := string(left[:v])
		left = left[v:]
		return s, true
	}
	off, one := number()
	apart, two := number()
	if !one || !two || off > math.MaxInt64 {
		return r, false
	}
	r.Off = int(off)
	// Half of it, of the odd ones the half above, turned below 0: told by great numbers, so that nothing wraps round.
	d := new(big.Int).SetUint64(apart)
	if odd := apart%2 == 1; odd {
		d.Neg(d.Rsh(d.Add(d, big.NewInt(1)), 1))
	} else {
		d.Rsh(d, 1)
	}
	d.Add(d, big.NewInt(int64(first)))
	if !d.IsInt64() {
		return r, false
	}
	r.Time = int(d.Int64())
	if b[0]%2 == 1 {
		if r.Key, r.HasKey = text(); !r.HasKey {
			return r, false
		}
	}
	if b[0]/2%2 == 1 {
		if r.Val, r.HasVal = text(); !r.HasVal {
			return r, false
		}
	}
	return r, true
}

// read is what P12.3 says of any bytes.
func read(b []byte, first int) (api.Record, int, api.Errno) {
	r, whole := parse(b, first)
	if !whole || wrong(r) != ok || first < 0 || first > 1125899906842624 || !bytes.HasPrefix(b, laid(r, first)) {
		return api.Record{}, 0, bad
	}
	return r, len(laid(r, first)), ok
}

// short is a record as a failure tells it.
func short(r api.Record) api.Record {
	cut := func(s string) string {
		if len(s) <= 20 {
			return s
		}
		return s[:20] + strings.Repeat(".", len(s)/1000+3)
	}
	r.Key, r.Val = cut(r.Key), cut(r.Val)
	return r
}

// checks must be what Check answers.
func checks(t *testing.T, r api.Record, want api.Errno) {
	t.Helper()
	if e := record.Check(r); e != want {
		t.Errorf("P12.1: Check(%+v) = %d, want %d", short(r), e, want)
	}
}

// encodes must be what Encode answers.
func encodes(t *testing.T, r api.Record, first int, b []byte, want api.Errno) {
	t.Helper()
	if got, e := record.Encode(r, first); !bytes.Equal(got, b) || e != want {
		t.Errorf("P12.2: Encode(%+v, %d) = %.40x (%d bytes) %d, want %.40x (%d bytes) %d", short(r), first, got, len(got), e, b, len(b), want)
	}
}

// decodes must be what Decode answers.
func decodes(t *testing.T, promise string, b []byte, first int, want api.Record, size int, code api.Errno) {
	t.Helper()
	if r, n, e := record.Decode(b, first); r != want || n != size || e != code {
		t.Errorf("%s: Decode(%.40x (%d bytes), %d) = %+v %d %d, want %+v %d %d", promise, b, len(b), first, short(r), n, e, short(want), size, code)
	}
}

// refuses must be ErrBad, with nothing beside it.
func refuses(t *testing.T, b []byte, first int) {
	t.Helper()
	decodes(t, "P12.3", b, first, api.Record{}, 0, bad)
}
