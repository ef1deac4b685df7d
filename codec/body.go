package codec

import (
	"slices"

	"bollard/api"
)

// body is the fields of a request or a response; those that it has not are zero.
type body struct {
	ints    [fieldCount]int // a flag is 0 or 1
	texts   [fieldCount]string
	records []api.Record
	names   []string
	counts  []int
	batches []api.Batch
}

// bodyOfRequest is what a request has.
func bodyOfRequest(r api.Request) (b body) {
	b.texts[topic] = r.Topic
	b.texts[group] = r.Group
	b.ints[part] = r.Part
	b.ints[parts] = r.Parts
	b.ints[segment] = r.Set.Segment
	b.ints[kept] = r.Set.Bytes
	b.ints[age] = r.Set.Age
	if r.Set.Compact {
		b.ints[compact] = 1
	}
	b.ints[delay] = r.Set.Delay
	b.ints[producer] = r.Producer
	b.ints[seq] = r.Seq
	b.ints[offset] = r.Offset
	b.ints[atMost] = r.Max
	b.ints[time] = r.Time
	b.records = r.Records
	return b
}

// request is a request with these fields.
func (b body) request() api.Request {
	return api.Request{
		Topic: b.texts[topic],
		Part:  b.ints[part],
		Parts: b.ints[parts],
		Set: api.Settings{
			Segment: b.ints[segment],
			Bytes:   b.ints[kept],
			Age:     b.ints[age],
			Compact: b.ints[compact] == 1,
			Delay:   b.ints[delay],
		},
		Producer: b.ints[producer],
		Seq:      b.ints[seq],
		Records:  b.records,
		Offset:   b.ints[offset],
		Max:      b.ints[atMost],
		Time:     b.ints[time],
		Group:    b.texts[group],
	}
}

// bodyOfResponse is what a response has.
func bodyOfResponse(r api.Response) (b body) {
	b.ints[offset] = r.Offset
	b.ints[start] = r.Start
	b.ints[next] = r.Next
	b.names = r.Topics
	b.counts = r.Parts
	b.batches = r.Batches
	return b
}

// response is a response with these fields.
func (b body) response() api.Response {
	return api.Response{
		Offset:  b.ints[offset],
		Start:   b.ints[start],
		Next:    b.ints[next],
		Topics:  b.names,
		Parts:   b.counts,
		Batches: b.batches,
	}
}

// has is whether a field is not zero.
func (b body) has(f field) bool {
	switch kindOf(f) {
	case isText:
		return b.texts[f] != ""
	case isRecords:
		return len(b.records) > 0
	case isNames:
		return len(b.names) > 0
	case isCounts:
		return len(b.counts) > 0
	case isBatches:
		return len(b.batches) > 0
	}
	return b.ints[f] != 0
}

// hasMore is whether a field that is not of the row is not zero.
func (b body) hasMore(row []field) bool {
	for f := range fieldCount {
		if b.has(f) && !slices.Contains(row, f) {
			return true
		}
	}
	return false
}
