package batch_test

import (
	"bytes"
	"encoding/binary"
	"hash/crc32"
	"math"
	"reflect"
	"strings"
	"testing"

	"bollard/api"
	"bollard/batch"
	"bollard/record"
)

// Short names of errors and edges, for rows of calls.
const (
	ok     = api.OK
	arg    = api.ErrArg
	tooBig = api.ErrBig
	bad    = api.ErrBad
	least  = math.MinInt
	most   = math.MaxInt
	last   = 1 << 50 // the greatest offset, and the greatest time
)

// dice are numbers without a pattern, the same ones at each run.
type dice uint64

func (x *dice) below(n int) int {
	*x = *x*6364136223846793005 + 1442695040888963407
	return int(uint64(*x) >> 33 % uint64(n))
}

// number is one from 0 to 2^50, small or great.
func (x *dice) number() int {
	return (x.below(1<<30)<<20 | x.below(1<<20)) >> x.below(51)
}

// text is one of up to n bytes of all values.
func (x *dice) text(n int) string {
	b := make([]byte, x.below(n+1))
	for i := range b {
		b[i] = byte(x.below(256))
	}
	return string(b)
}

// record is one that may be, at a place.
func (x *dice) record(off, size int) api.Record {
	r := api.Record{Time: x.number(), Off: off}
	if x.below(3) > 0 {
		r.HasKey, r.Key = true, x.text(size)
	}
	if x.below(3) > 0 {
		r.HasVal, r.Val = true, x.text(size)
	}
	return r
}

// batch is one that may be.
func (x *dice) batch() api.Batch {
	b := api.Batch{Base: x.number(), Span: 1 + x.below(100), Producer: x.number() << x.below(13), Seq: x.number() << x.below(13)}
	size := 2000 / b.Span
	for off := x.below(b.Span); off < b.Span; off += 1 + x.below(3) {
		b.Records = append(b.Records, x.record(off, min(size, 60)))
	}
	return b
}

// val is a record without a key.
func val(s string, time, off int) api.Record {
	return api.Record{HasVal: true, Val: s, Time: time, Off: off}
}

// good is a batch that may be, with a gap.
func good() api.Batch {
	return api.Batch{Base: 7, Span: 5, Producer: 5, Seq: 6, Records: []api.Record{
		val("a", 9, 0),
		{HasKey: true, Key: "k", Time: 300, Off: 2},
		{HasKey: true, Key: "key", HasVal: true, Val: "value", Time: 4, Off: 3},
	}}
}

// places is a batch of records at these places.
func places(span int, offs ...int) api.Batch {
	b := api.Batch{Span: span}
	for _, off := range offs {
		b.Records = append(b.Records, val("v", 1, off))
	}
	return b
}

// row is n records at the places 0, 1, ..
func row(n int) (l []api.Record) {
	for i := range n {
		l = append(l, val(strings.Repeat("x", i%7), 10+i*i%17, i))
	}
	return l
}

// sized is a batch of n bytes: 4000 to 6050 of them.
func sized(n int) api.Batch {
	b := places(3, 0, 2)
	b.Records[0].HasKey, b.Records[0].Key = true, strings.Repeat("k", 2000)
	b.Records[0].Val = strings.Repeat("v", 1800)
	b.Records[1].HasKey = true
	b.Records[1].Val = strings.Repeat("w", 128)
	rest := n - len(laid(b))
	more := min(rest, 2000-128)
	b.Records[1].Val += strings.Repeat("w", more)
	b.Records[0].Val += strings.Repeat("v", rest-more)
	return b
}

// wrongRecord is what P12.1 says of a record.
func wrongRecord(r api.Record) api.Errno {
	if !r.HasKey && r.Key != "" || !r.HasVal && r.Val != "" || r.Time < 0 || r.Time > last || r.Off < 0 || r.Off > 99 {
		return arg
	}
	if len(r.Key) > 2000 || len(r.Val) > 2000 {
		return tooBig
	}
	return ok
}

// wrong is what P13.1 says of a batch, one word after the other.
func wrong(b api.Batch) api.Errno {
	if b.Base < 0 || b.Base > 1125899906842624 {
		return arg
	}
	if b.Span < 1 || b.Span > 100 {
		return arg
	}
	if b.Producer < 0 || b.Seq < 0 || len(b.Records) == 0 {
		return arg
	}
	for i := 1; i < len(b.Records); i++ {
		if b.Records[i].Off <= b.Records[i-1].Off {
			return arg
		}
	}
	for _, r := range b.Records {
		if r.Off >= b.Span {
			return arg
		}
	}
	for _, r := range b.Records {
		if e := wrongRecord(r); e != ok {
			return e
		}
	}
	if len(laid(b)) > 6000 {
		return tooBig
	}
	return ok
}

// laidRecord is a record's bytes, its numbers laid by the library.
func laidRecord(r api.Record, first int) []byte {
	b := []byte{0}
	if r.HasKey {
		b[0]++
	}
	if r.HasVal {
		b[0] += 2
	}
	b = binary.AppendUvarint(b, uint64(r.Off))
	b = binary.AppendVarint(b, int64(r.Time)-int64(first))
	if r.HasKey {
		b = append(binary.AppendUvarint(b, uint64(len(r.Key))), r.Key...)
	}
	if r.HasVal {
		b = append(binary.AppendUvarint(b, uint64(len(r.Val))), r.Val...)
	}
	return b
}

// parts are what a batch's bytes are made of, each of which may be told wrong.
type parts struct {
	base, producer, seq, time uint64
	span, count               uint32
	records                   []byte
}

// partsOf are those of a batch.
func partsOf(b api.Batch) parts {
	p := parts{base: uint64(b.Base), producer: uint64(b.Producer), seq: uint64(b.Seq), span: uint32(b.Span), count: uint32(len(b.Records))}
	for i, r := range b.Records {
		if i == 0 {
			p.time = uint64(r.Time)
		}
		p.records = append(p.records, laidRecord(r, b.Records[0].Time)...)
	}
	return p
}

// bytes are these parts under a right length and a right Sum.
func (p parts) bytes() []byte {
	order := binary.BigEndian
	in := order.AppendUint64(nil, p.producer)
	in = order.AppendUint64(in, p.seq)
	in = order.AppendUint32(in, p.span)
	in = order.AppendUint32(in, p.count)
	in = order.AppendUint64(in, p.time)
	in = append(in, p.records...)
	out := order.AppendUint64(nil, p.base)
	out = order.AppendUint32(out, uint32(4+len(in)))
	out = order.AppendUint32(out, crc32.Checksum(in, crc32.MakeTable(crc32.Castagnoli)))
	return append(out, in...)
}

// laid is a batch's bytes, laid by the library.
func laid(b api.Batch) []byte {
	return partsOf(b).bytes()
}

// parse takes bytes for a batch in the plainest way: what it answers is one only if its bytes are those.
func parse(p []byte) (b api.Batch, there bool) {
	if len(p) < 48 {
		return b, false
	}
	order := binary.BigEndian
	b.Base = int(order.Uint64(p))
	b.Producer = int(order.Uint64(p[16:]))
	b.Seq = int(order.Uint64(p[24:]))
	b.Span = int(order.Uint32(p[32:]))
	time := int(order.Uint64(p[40:]))
	left := p[48:]
	for range order.Uint32(p[36:]) {
		r, n, e := record.Decode(left, time)
		if e != ok {
			return b, false
		}
		b.Records, left = append(b.Records, r), left[n:]
	}
	return b, true
}

// read is what P13.3 says of any bytes.
func read(p []byte) (api.Batch, int, api.Errno) {
	b, there := parse(p)
	if !there || wrong(b) != ok || !bytes.HasPrefix(p, laid(b)) {
		return api.Batch{}, 0, bad
	}
	return b, len(laid(b)), ok
}

// same is whether two batches tell the same.
func same(a, b api.Batch) bool {
	if len(a.Records) == 0 && len(b.Records) == 0 {
		a.Records, b.Records = nil, nil
	}
	return reflect.DeepEqual(a, b)
}

// short is a batch as a failure tells it.
func short(b api.Batch) api.Batch {
	b.Records = append([]api.Record(nil), b.Records[:min(3, len(b.Records))]...)
	for i, r := range b.Records {
		b.Records[i].Key, b.Records[i].Val = r.Key[:min(20, len(r.Key))], r.Val[:min(20, len(r.Val))]
	}
	return b
}

// checks must be what Check answers; Encode tells the same error.
func checks(t *testing.T, b api.Batch, want api.Errno) {
	t.Helper()
	if wrong(b) != want {
		t.Fatalf("the test's own word of %+v is %d, not %d", short(b), wrong(b), want)
	}
	if e := batch.Check(b); e != want {
		t.Errorf("P13.1: Check(%+v, %d records) = %d, want %d", short(b), len(b.Records), e, want)
	}
	encodes(t, b)
}

// encodes holds Encode against the library's bytes.
func encodes(t *testing.T, b api.Batch) {
	t.Helper()
	e := wrong(b)
	var want []byte
	if e == ok {
		want = laid(b)
	}
	if p, code := batch.Encode(b); !bytes.Equal(p, want) || code != e {
		t.Errorf("P13.2: Encode(%+v, %d records) = %.80x (%d bytes) %d, want %.80x (%d bytes) %d", short(b), len(b.Records), p, len(p), code, want, len(want), e)
	}
}

// decodes must be what Decode answers.
func decodes(t *testing.T, promise string, p []byte, want api.Batch, size int, code api.Errno) {
	t.Helper()
	if b, n, e := batch.Decode(p); !same(b, want) || n != size || e != code {
		t.Errorf("%s: Decode(%.80x (%d bytes)) = %+v %d %d, want %+v %d %d", promise, p, len(p), short(b), n, e, short(want), size, code)
	}
}

// refuses must be ErrBad, with nothing beside it.
func refuses(t *testing.T, p []byte) {
	t.Helper()
	decodes(t, "P13.3", p, api.Batch{}, 0, bad)
}
