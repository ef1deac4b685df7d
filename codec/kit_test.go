package codec_test

import (
	"bytes"
	"math"
	"slices"
	"strings"
	"testing"

	"bollard/api"
	"bollard/codec"
)

// Short names of errors and edges.
const (
	ok    = api.OK
	arg   = api.ErrArg
	text  = api.ErrText
	least = math.MinInt
	most  = math.MaxInt
	full  = 65535 // what two bytes can say
)

// edges are ints at which something may turn.
func edges() []int {
	return []int{least, least + 1, -1 << 32, -1 << 31, -65536, -256, -255, -128, -1, 0, 1, 127, 128, 255, 256, 32767, 32768, 65535, 65536, 1<<31 - 1, 1 << 31, 1<<32 - 1, 1 << 32, 1<<50 + 1, 1 << 62, most - 1, most}
}

// long is a text of n bytes of all values.
func long(n int) string {
	b := make([]byte, n)
	for i := range b {
		b[i] = byte(251*i + n)
	}
	return string(b)
}

// someTexts are such as may be.
func someTexts() []string {
	return []string{"", "a", "\x00", "\xff\xfe", "/", "..", "with blanks\n", "äöü€", long(49), long(51), long(255), long(256), long(2001), long(full - 1), long(full)}
}

// longTexts are such as may not be: two bytes cannot say how long they are.
func longTexts() []string {
	return []string{long(full + 1), long(full + 2), long(2*full + 2), strings.Repeat("\x00", full+2)}
}

// rec is a record of a request's; - is none.
func rec(key, val string, time int) (r api.Record) {
	r.Time = time
	if key != "-" {
		r.HasKey, r.Key = true, key
	}
	if val != "-" {
		r.HasVal, r.Val = true, val
	}
	return r
}

// bat is a batch that may be: n records from the offset base on, each second one left out.
func bat(base, n int) api.Batch {
	b := api.Batch{Base: base, Span: 2 * n, Producer: 3, Seq: 4}
	for i := range n {
		r := rec("k", "v", 1000-i)
		r.Off = 2*i + 1
		b.Records = append(b.Records, r)
	}
	return b
}

// wrongBatches are such as 13's Check refuses, by ErrArg and by ErrBig.
func wrongBatches() []api.Batch {
	change := func(f func(*api.Batch)) api.Batch {
		b := bat(7, 2)
		f(&b)
		return b
	}
	return []api.Batch{
		{},
		{Span: 1},
		change(func(b *api.Batch) { b.Base = -1 }),
		change(func(b *api.Batch) { b.Base = 1<<50 + 1 }),
		change(func(b *api.Batch) { b.Span = 0 }),
		change(func(b *api.Batch) { b.Span = 101 }),
		change(func(b *api.Batch) { b.Producer = -1 }),
		change(func(b *api.Batch) { b.Seq = least }),
		change(func(b *api.Batch) { b.Records[0].Off = 3 }),
		change(func(b *api.Batch) { b.Records[1].Off = 4 }),
		change(func(b *api.Batch) { b.Records[1].HasKey = false }),
		change(func(b *api.Batch) { b.Records[1].HasVal = false }),
		change(func(b *api.Batch) { b.Records[1].Time = -1 }),
		change(func(b *api.Batch) { b.Records[1].Val = long(2001) }),
		bigBatch(6001),
	}
}

// bigBatch is one of n bytes, 4200 to 6010.
func bigBatch(n int) api.Batch {
	b := api.Batch{Span: 2, Records: []api.Record{rec(long(2000), long(2000), 0), rec("", long(128), 0)}}
	b.Records[1].Off = 1
	b.Records[1].Val = long(128 + n - len(laidBatch(b)))
	return b
}

// someRequests are right ones of each Kind.
func someRequests() []api.Request {
	set := api.Settings{Segment: 1, Bytes: -1, Age: least, Compact: true, Delay: most}
	return []api.Request{
		{Kind: 1, ID: 1<<32 - 1, Topic: "news", Parts: -5, Set: set},
		{Kind: 1},
		{Kind: 1, Topic: "", Parts: 8, Set: api.Settings{Segment: 512, Delay: 60}},
		{Kind: 2, ID: 7, Topic: "a"},
		{Kind: 2},
		{Kind: 3, ID: 0x01020304},
		{Kind: 3},
		{Kind: 4, ID: 3, Topic: "t", Part: 1, Producer: 2, Seq: 3, Records: []api.Record{rec("k", "v", 5), rec("-", "-", -1), rec("", "", 0), rec("key", "-", most), rec("-", "value", least)}},
		{Kind: 4},
		{Kind: 4, Topic: "t", Records: []api.Record{{}}},
		{Kind: 5, ID: 1 << 31, Topic: "t", Part: -1, Offset: 1 << 62, Max: 9},
		{Kind: 5},
		{Kind: 6, ID: 255, Topic: "t", Part: 2, Time: -3},
		{Kind: 6},
		{Kind: 7, ID: 256, Group: "g", Topic: "topic", Part: 1, Offset: 2},
		{Kind: 7},
		{Kind: 8, ID: 65536, Group: "group", Topic: "t", Part: 1},
		{Kind: 8},
	}
}

// someResponses are right ones of each Kind, and refusals.
func someResponses() []api.Response {
	l := []api.Response{
		{Kind: 1, ID: 5},
		{Kind: 2, ID: 1<<32 - 1},
		{Kind: 3, ID: 6, Topics: []string{"a", "", "news"}, Parts: []int{-1, 8, most}},
		{Kind: 3, Topics: []string{"b"}},
		{Kind: 3, Parts: []int{1, 2}},
		{Kind: 3},
		{Kind: 4, ID: 0x01020304, Offset: 1, Start: -2, Next: 3},
		{Kind: 4},
		{Kind: 5, ID: 9, Start: 1, Next: 9, Batches: []api.Batch{bat(7, 1), bat(1<<50, 3), bat(0, 50)}},
		{Kind: 5, Start: least, Next: most, Batches: []api.Batch{bat(0, 1)}},
		{Kind: 5},
		{Kind: 6, Offset: 1 << 62, Start: 5, Next: -6},
		{Kind: 6},
		{Kind: 7, ID: 1 << 31},
		{Kind: 8, Offset: -4},
		{Kind: 8},
	}
	for kind := range 9 {
		l = append(l, api.Response{Kind: kind, ID: 77, Code: 13}, api.Response{Kind: kind, Code: 1}, api.Response{Kind: kind, Code: 255})
	}
	return l
}

// shortRequest is one as a failure tells it.
func shortRequest(r api.Request) api.Request {
	cut := func(s string) string { return s[:min(len(s), 20)] }
	r.Topic, r.Group = cut(r.Topic), cut(r.Group)
	r.Records = slices.Clone(r.Records[:min(len(r.Records), 5)])
	for i, x := range r.Records {
		r.Records[i].Key, r.Records[i].Val = cut(x.Key), cut(x.Val)
	}
	return r
}

// shortResponse is one as a failure tells it.
func shortResponse(r api.Response) api.Response {
	r.Topics = slices.Clone(r.Topics[:min(len(r.Topics), 5)])
	for i, s := range r.Topics {
		r.Topics[i] = s[:min(len(s), 20)]
	}
	r.Parts = r.Parts[:min(len(r.Parts), 5)]
	r.Batches = slices.Clone(r.Batches[:min(len(r.Batches), 3)])
	for i, b := range r.Batches {
		r.Batches[i].Records = b.Records[:min(len(b.Records), 1)]
	}
	return r
}

// asks holds what Request answers against what must be so; its bytes are read again.
func asks(t *testing.T, r api.Request) {
	t.Helper()
	var want []byte
	code := arg
	if !wrongRequest(r) {
		want, code = laidRequest(r), ok
	}
	b, e := codec.Request(r)
	if !bytes.Equal(b, want) || e != code {
		t.Fatalf("P20.1: Request(%#v, %d records) = %.80x (%d bytes) %d, want %.80x (%d bytes) %d", shortRequest(r), len(r.Records), b, len(b), e, want, len(want), code)
	}
	if e != ok {
		return
	}
	if got, e := codec.ParseRequest(b); !sameRequest(got, r) || e != ok {
		t.Fatalf("P20.3: ParseRequest(%.80x (%d bytes)) = %#v (%d records) %d, want %#v (%d records)", b, len(b), shortRequest(got), len(got.Records), e, shortRequest(r), len(r.Records))
	}
}

// answers holds what Response answers against what must be so; its bytes are read again.
func answers(t *testing.T, r api.Response) {
	t.Helper()
	var want []byte
	code := arg
	if !wrongResponse(r) {
		want, code = laidResponse(r), ok
	}
	b, e := codec.Response(r)
	if !bytes.Equal(b, want) || e != code {
		t.Fatalf("P20.1: Response(%#v) = %.80x (%d bytes) %d, want %.80x (%d bytes) %d", shortResponse(r), b, len(b), e, want, len(want), code)
	}
	if e != ok {
		return
	}
	if got, e := codec.ParseResponse(b); !sameResponse(got, r) || e != ok {
		t.Fatalf("P20.3: ParseResponse(%.80x (%d bytes)) = %#v %d, want %#v", b, len(b), shortResponse(got), e, shortResponse(r))
	}
}

// asksOK is asks of one that may be.
func asksOK(t *testing.T, r api.Request) {
	t.Helper()
	if wrongRequest(r) {
		t.Fatalf("the test's own word of %#v is that it is wrong", shortRequest(r))
	}
	asks(t, r)
}

// asksNot is asks of one that may not be.
func asksNot(t *testing.T, r api.Request) {
	t.Helper()
	if !wrongRequest(r) {
		t.Fatalf("the test's own word of %#v is that it is right", shortRequest(r))
	}
	asks(t, r)
}

// answersOK is answers of one that may be.
func answersOK(t *testing.T, r api.Response) {
	t.Helper()
	if wrongResponse(r) {
		t.Fatalf("the test's own word of %#v is that it is wrong", shortResponse(r))
	}
	answers(t, r)
}

// answersNot is answers of one that may not be.
func answersNot(t *testing.T, r api.Response) {
	t.Helper()
	if !wrongResponse(r) {
		t.Fatalf("the test's own word of %#v is that it is right", shortResponse(r))
	}
	answers(t, r)
}

// isAsked holds what ParseRequest answers against what must be so; what it reads is written as it was.
func isAsked(t *testing.T, b []byte) {
	t.Helper()
	want, code := readRequest(b)
	got, e := codec.ParseRequest(b)
	if !sameRequest(got, want) || e != code {
		t.Fatalf("P20.2: ParseRequest(%.80x (%d bytes)) = %#v %d, want %#v %d", b, len(b), shortRequest(got), e, shortRequest(want), code)
	}
	if e != ok {
		return
	}
	if again, e := codec.Request(got); !bytes.Equal(again, b) || e != ok {
		t.Fatalf("P20.3: Request of what ParseRequest read of %.80x = %.80x %d", b, again, e)
	}
}

// isAnswered holds what ParseResponse answers against what must be so; what it reads is written as it was.
func isAnswered(t *testing.T, b []byte) {
	t.Helper()
	want, code := readResponse(b)
	got, e := codec.ParseResponse(b)
	if !sameResponse(got, want) || e != code {
		t.Fatalf("P20.2: ParseResponse(%.80x (%d bytes)) = %#v %d, want %#v %d", b, len(b), shortResponse(got), e, shortResponse(want), code)
	}
	if e != ok {
		return
	}
	if again, e := codec.Response(got); !bytes.Equal(again, b) || e != ok {
		t.Fatalf("P20.3: Response of what ParseResponse read of %.80x = %.80x %d", b, again, e)
	}
}

// noRequest is isAsked of bytes that are none.
func noRequest(t *testing.T, b []byte) {
	t.Helper()
	if _, e := readRequest(b); e != text {
		t.Fatalf("the test's own word of %.80x is that it is a request", b)
	}
	isAsked(t, b)
}

// noResponse is isAnswered of bytes that are none.
func noResponse(t *testing.T, b []byte) {
	t.Helper()
	if _, e := readResponse(b); e != text {
		t.Fatalf("the test's own word of %.80x is that it is a response", b)
	}
	isAnswered(t, b)
}
