package codec_test

import (
	"bytes"
	"slices"
	"testing"

	"bollard/api"
	"bollard/codec"
)

// dice are numbers without a pattern, the same ones at each run.
type dice uint64

func (x *dice) below(n int) int {
	*x = *x*6364136223846793005 + 1442695040888963407
	return int(uint64(*x) >> 33 % uint64(n))
}

// pick is one of l.
func (x *dice) pick(l ...int) int {
	return l[x.below(len(l))]
}

// number is any int, small or great, on both sides of 0.
func (x *dice) number() int {
	v := (x.below(1<<31)<<33 ^ x.below(1<<31)<<10 ^ x.below(1<<10)) >> x.below(64)
	if x.below(2) == 0 {
		return -v
	}
	return v
}

// natural is one from 0 to 2^50.
func (x *dice) natural() int {
	return (x.below(1<<30)<<20 | x.below(1<<20)) >> x.below(51)
}

// id is any that may be.
func (x *dice) id() int {
	return (x.below(1<<16)<<16 | x.below(1<<16)) >> x.below(33)
}

// text is one of bytes of all values.
func (x *dice) text() string {
	b := make([]byte, x.below(x.pick(1, 3, 20, 300)))
	for i := range b {
		b[i] = byte(x.below(256))
	}
	return string(b)
}

// record is one without a place.
func (x *dice) record(time int) api.Record {
	r := api.Record{Time: time}
	if x.below(3) > 0 {
		r.HasKey, r.Key = true, x.text()
	}
	if x.below(3) > 0 {
		r.HasVal, r.Val = true, x.text()
	}
	return r
}

// request is one that may be, or, seldom, one with a field too many.
func (x *dice) request() api.Request {
	r := api.Request{Topic: x.text(), Part: x.number(), Parts: x.number(), Set: api.Settings{Segment: x.number(), Bytes: x.number(), Age: x.number(), Compact: x.below(2) == 0, Delay: x.number()}, Producer: x.number(), Seq: x.number(), Offset: x.number(), Max: x.number(), Time: x.number(), Group: x.text()}
	for range x.below(x.pick(1, 2, 30)) {
		r.Records = append(r.Records, x.record(x.number()))
	}
	r.Kind, r.ID = 1+x.below(8), x.id()
	n := named(r)
	if x.below(5) > 0 {
		return n
	}
	*intFields()[x.below(len(intFields()))].at(&n) = x.number()
	return n
}

// batch is one that may be.
func (x *dice) batch() api.Batch {
	b := api.Batch{Base: x.natural(), Span: 1 + x.below(x.pick(1, 5, 100)), Producer: x.natural(), Seq: x.natural()}
	for off := x.below(b.Span); off < b.Span; off += 1 + x.below(30) {
		r := x.record(x.natural())
		r.Off = off
		b.Records = append(b.Records, r)
	}
	return b
}

// response is one that may be, or, seldom, one with a field too many.
func (x *dice) response() api.Response {
	r := api.Response{Offset: x.number(), Start: x.number(), Next: x.number()}
	for range x.below(x.pick(1, 2, 9)) {
		r.Topics = append(r.Topics, x.text())
		r.Batches = append(r.Batches, x.batch())
	}
	for range x.below(x.pick(1, 2, 9)) {
		r.Parts = append(r.Parts, x.number())
	}
	r.Kind, r.ID = x.below(9), x.id()
	if r.Kind == 0 || x.below(9) == 0 {
		r.Code = api.Errno(1 + x.below(255))
	}
	n := told(r)
	if x.below(5) == 0 {
		setters()[x.below(len(setters()))].set(&n)
	}
	return n
}

// TestDrawn: drawn requests and responses are written as they must be, and read again as they were.
func TestDrawn(t *testing.T) {
	for seed := range 10000 {
		x := dice(seed)
		asks(t, x.request())
		answers(t, x.response())
	}
}

// changed is b with some drawn changes.
func (x *dice) changed(b []byte) []byte {
	b = bytes.Clone(b)
	for range 1 + x.below(3) {
		at := x.below(len(b) + 1)
		switch x.below(4) {
		case 0:
			if at < len(b) {
				b[at] = byte(x.below(x.pick(2, 10, 256)))
			}
		case 1:
			b = slices.Insert(b, at, make([]byte, x.pick(1, 2, 8, 9))...)
		case 2:
			b = slices.Delete(b, at, min(at+x.pick(1, 2, 8, 9), len(b)))
		case 3:
			b = b[:at]
		}
	}
	return b
}

// TestDrawnChanges: what is written, in drawn ways changed.
func TestDrawnChanges(t *testing.T) {
	for seed := range 30000 {
		x := dice(seed)
		asked, _ := codec.Request(named(x.request()))
		isAsked(t, x.changed(asked))
		isAnswered(t, x.changed(asked))
		answered, _ := codec.Response(told(x.response()))
		isAnswered(t, x.changed(answered))
		isAsked(t, x.changed(answered))
	}
}

// TestOneEachWay: no two requests have the same bytes, and no two responses, among many that are nearly the same.
func TestOneEachWay(t *testing.T) {
	texts := []string{"", "a", "\x00", "\x00\x01a"}
	seen := map[string]api.Request{}
	for _, topic := range texts {
		for _, group := range texts {
			for _, n := range []int{0, 1, -1} {
				for kind := 1; kind <= 8; kind++ {
					r := named(api.Request{Kind: kind, Topic: topic, Group: group, Part: n, Parts: n, Offset: n, Time: n})
					b, _ := codec.Request(r)
					if was, there := seen[string(b)]; there && !sameRequest(was, r) {
						t.Errorf("P20.3: %#v and %#v have the same bytes %x", was, r, b)
					}
					seen[string(b)] = r
				}
			}
		}
	}
	for _, l := range [][]string{{}, {""}, {"", ""}, {"\x00\x00"}, {"a"}, {"a", ""}, {"", "a"}} {
		for _, m := range [][]int{nil, {0}, {0, 0}, {1}, {0, 1}, {1, 0}} {
			answersOK(t, api.Response{Kind: 3, Topics: l, Parts: m})
		}
	}
}

// TestAgain: a call tells the same however often, whatever was called between.
func TestAgain(t *testing.T) {
	for range 3 {
		for _, r := range someRequests() {
			asksOK(t, r)
			asksNot(t, api.Request{Kind: 3, Topic: "x"})
			noRequest(t, []byte{4, 0, 0})
		}
		for _, r := range someResponses() {
			answersOK(t, r)
			answersNot(t, api.Response{Kind: 5, Batches: []api.Batch{{}}})
			noResponse(t, []byte{5, 0, 0})
		}
	}
}
