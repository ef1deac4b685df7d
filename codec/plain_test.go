package codec_test

import (
	"bytes"
	"encoding/binary"
	"hash/crc32"
	"slices"

	"bollard/api"
	"bollard/batch"
)

// order is how numbers stand.
var order = binary.BigEndian

// Here a request's and a response's bytes are laid by the library, as the chapter's table tells them.

func laidInts(b []byte, l ...int) []byte {
	for _, v := range l {
		b = order.AppendUint64(b, uint64(int64(v)))
	}
	return b
}

func laidText(b []byte, s string) []byte {
	return append(order.AppendUint16(b, uint16(len(s))), s...)
}

func laidRecords(b []byte, l []api.Record) []byte {
	b = order.AppendUint16(b, uint16(len(l)))
	for _, r := range l {
		switch {
		case r.HasKey && r.HasVal:
			b = laidText(laidText(append(b, 3), r.Key), r.Val)
		case r.HasVal:
			b = laidText(append(b, 2), r.Val)
		case r.HasKey:
			b = laidText(append(b, 1), r.Key)
		default:
			b = append(b, 0)
		}
		b = laidInts(b, r.Time)
	}
	return b
}

// laidRequest is the bytes of one that may be.
func laidRequest(r api.Request) []byte {
	b := order.AppendUint32([]byte{byte(r.Kind)}, uint32(r.ID))
	switch r.Kind {
	case 1:
		b = laidInts(laidText(b, r.Topic), r.Parts, r.Set.Segment, r.Set.Bytes, r.Set.Age)
		if r.Set.Compact {
			b = append(b, 1)
		} else {
			b = append(b, 0)
		}
		b = laidInts(b, r.Set.Delay)
	case 2:
		b = laidText(b, r.Topic)
	case 4:
		b = laidRecords(laidInts(laidText(b, r.Topic), r.Part, r.Producer, r.Seq), r.Records)
	case 5:
		b = laidInts(laidText(b, r.Topic), r.Part, r.Offset, r.Max)
	case 6:
		b = laidInts(laidText(b, r.Topic), r.Part, r.Time)
	case 7:
		b = laidInts(laidText(laidText(b, r.Group), r.Topic), r.Part, r.Offset)
	case 8:
		b = laidInts(laidText(laidText(b, r.Group), r.Topic), r.Part)
	}
	return b
}

// laidBatch is 13's bytes of a batch.
func laidBatch(b api.Batch) []byte {
	in := laidInts(nil, b.Producer, b.Seq)
	in = order.AppendUint32(in, uint32(b.Span))
	in = order.AppendUint32(in, uint32(len(b.Records)))
	in = laidInts(in, b.Records[0].Time)
	for _, r := range b.Records {
		mark := len(in)
		in = append(in, 0)
		in = binary.AppendUvarint(in, uint64(r.Off))
		in = binary.AppendVarint(in, int64(r.Time-b.Records[0].Time))
		if r.HasKey {
			in[mark]++
			in = append(binary.AppendUvarint(in, uint64(len(r.Key))), r.Key...)
		}
		if r.HasVal {
			in[mark] += 2
			in = append(binary.AppendUvarint(in, uint64(len(r.Val))), r.Val...)
		}
	}
	out := laidInts(nil, b.Base)
	out = order.AppendUint32(out, uint32(4+len(in)))
	out = order.AppendUint32(out, crc32.Checksum(in, crc32.MakeTable(crc32.Castagnoli)))
	return append(out, in...)
}

// laidResponse is the bytes of one that may be.
func laidResponse(r api.Response) []byte {
	b := order.AppendUint32([]byte{byte(r.Kind)}, uint32(r.ID))
	b = append(b, byte(r.Code))
	if r.Code != 0 {
		return b
	}
	switch r.Kind {
	case 3:
		b = order.AppendUint16(b, uint16(len(r.Topics)))
		for _, s := range r.Topics {
			b = laidText(b, s)
		}
		b = laidInts(order.AppendUint16(b, uint16(len(r.Parts))), r.Parts...)
	case 4, 6:
		b = laidInts(b, r.Offset, r.Start, r.Next)
	case 5:
		b = order.AppendUint16(laidInts(b, r.Start, r.Next), uint16(len(r.Batches)))
		for _, x := range r.Batches {
			b = append(b, laidBatch(x)...)
		}
	case 8:
		b = laidInts(b, r.Offset)
	}
	return b
}

// Here stands what P20.1 refuses, one word after the other.

func wrongRecords(l []api.Record) bool {
	return len(l) > full || slices.ContainsFunc(l, func(r api.Record) bool {
		return r.Off != 0 || r.Key != "" && !r.HasKey || r.Val != "" && !r.HasVal || len(r.Key) > full || len(r.Val) > full
	})
}

// named is a request with no other fields than those that its Kind names.
func named(r api.Request) api.Request {
	n := api.Request{Kind: r.Kind, ID: r.ID}
	if r.Kind != 3 {
		n.Topic = r.Topic
	}
	if r.Kind >= 4 {
		n.Part = r.Part
	}
	switch r.Kind {
	case 1:
		n.Parts, n.Set = r.Parts, r.Set
	case 4:
		n.Producer, n.Seq, n.Records = r.Producer, r.Seq, r.Records
	case 5:
		n.Offset, n.Max = r.Offset, r.Max
	case 6:
		n.Time = r.Time
	case 7:
		n.Group, n.Offset = r.Group, r.Offset
	case 8:
		n.Group = r.Group
	}
	return n
}

// wrongRequest is whether P20.1 refuses one.
func wrongRequest(r api.Request) bool {
	if r.Kind < 1 || r.Kind > 8 || r.ID < 0 || r.ID > 4294967295 {
		return true
	}
	return len(r.Topic) > full || len(r.Group) > full || wrongRecords(r.Records) || !sameRequest(r, named(r))
}

// told is a response with no other fields than those that its Kind names.
func told(r api.Response) api.Response {
	n := api.Response{Kind: r.Kind, ID: r.ID, Code: r.Code}
	if r.Code != 0 {
		return n
	}
	switch r.Kind {
	case 3:
		n.Topics, n.Parts = r.Topics, r.Parts
	case 4, 6:
		n.Offset, n.Start, n.Next = r.Offset, r.Start, r.Next
	case 5:
		n.Start, n.Next, n.Batches = r.Start, r.Next, r.Batches
	case 8:
		n.Offset = r.Offset
	}
	return n
}

// wrongResponse is whether P20.1 refuses one.
func wrongResponse(r api.Response) bool {
	if r.Kind < 0 || r.Kind > 8 || r.ID < 0 || r.ID > 4294967295 || r.Code < 0 || r.Code > 255 || r.Kind == 0 && r.Code == 0 {
		return true
	}
	if len(r.Topics) > full || len(r.Parts) > full || len(r.Batches) > full {
		return true
	}
	if slices.ContainsFunc(r.Topics, func(s string) bool { return len(s) > full }) {
		return true
	}
	if slices.ContainsFunc(r.Batches, func(b api.Batch) bool { return batch.Check(b) != ok }) {
		return true
	}
	return !sameResponse(r, told(r))
}

// sameRequest is whether two tell the same: nil and an empty list do.
func sameRequest(a, b api.Request) bool {
	if !slices.Equal(a.Records, b.Records) {
		return false
	}
	a.Records, b.Records = nil, nil
	return a.Kind == b.Kind && a.ID == b.ID && a.Topic == b.Topic && a.Part == b.Part && a.Parts == b.Parts && a.Set == b.Set && a.Producer == b.Producer && a.Seq == b.Seq && a.Offset == b.Offset && a.Max == b.Max && a.Time == b.Time && a.Group == b.Group
}

func sameBatch(a, b api.Batch) bool {
	return a.Base == b.Base && a.Span == b.Span && a.Producer == b.Producer && a.Seq == b.Seq && slices.Equal(a.Records, b.Records)
}

// sameResponse is whether two tell the same.
func sameResponse(a, b api.Response) bool {
	return a.Kind == b.Kind && a.ID == b.ID && a.Code == b.Code && a.Offset == b.Offset && a.Start == b.Start && a.Next == b.Next && slices.Equal(a.Topics, b.Topics) && slices.Equal(a.Parts, b.Parts) && slices.EqualFunc(a.Batches, b.Batches, sameBatch)
}

// Here bytes are taken for a request or a response in the plainest way: what comes out is one only if its bytes are those.

// cursor panics where bytes are not there.
type cursor struct{ b []byte }

func (c *cursor) bytes(n int) []byte {
	b := c.b[:n:n]
	c.b = c.b[n:]
	return b
}

func (c *cursor) one() int     { return int(c.bytes(1)[0]) }
func (c *cursor) two() int     { return int(order.Uint16(c.bytes(2))) }
func (c *cursor) int() int     { return int(int64(order.Uint64(c.bytes(8)))) }
func (c *cursor) text() string { return string(c.bytes(c.two())) }

func (c *cursor) record() (r api.Record) {
	mark := c.one()
	if mark&1 != 0 {
		r.HasKey, r.Key = true, c.text()
	}
	if mark&2 != 0 {
		r.HasVal, r.Val = true, c.text()
	}
	r.Time = c.int()
	return r
}

func (c *cursor) batch() api.Batch {
	b, n, _ := batch.Decode(c.b)
	if n == 0 {
		panic("no batch")
	}
	c.bytes(n)
	return b
}

func (c *cursor) request() (r api.Request) {
	r.Kind = c.one()
	r.ID = int(order.Uint32(c.bytes(4)))
	if r.Kind >= 7 {
		r.Group = c.text()
	}
	if r.Kind != 3 {
		r.Topic = c.text()
	}
	if r.Kind >= 4 {
		r.Part = c.int()
	}
	switch r.Kind {
	case 1:
		r.Parts, r.Set.Segment, r.Set.Bytes, r.Set.Age = c.int(), c.int(), c.int(), c.int()
		r.Set.Compact = c.one() == 1
		r.Set.Delay = c.int()
	case 4:
		r.Producer, r.Seq = c.int(), c.int()
		for range c.two() {
			r.Records = append(r.Records, c.record())
		}
	case 5:
		r.Offset, r.Max = c.int(), c.int()
	case 6:
		r.Time = c.int()
	case 7:
		r.Offset = c.int()
	}
	return r
}

func (c *cursor) response() (r api.Response) {
	r.Kind = c.one()
	r.ID = int(order.Uint32(c.bytes(4)))
	r.Code = api.Errno(c.one())
	if r.Code != 0 {
		return r
	}
	switch r.Kind {
	case 3:
		for range c.two() {
			r.Topics = append(r.Topics, c.text())
		}
		for range c.two() {
			r.Parts = append(r.Parts, c.int())
		}
	case 4, 6:
		r.Offset, r.Start, r.Next = c.int(), c.int(), c.int()
	case 5:
		r.Start, r.Next = c.int(), c.int()
		for range c.two() {
			r.Batches = append(r.Batches, c.batch())
		}
	case 8:
		r.Offset = c.int()
	}
	return r
}

// readRequest is what P20.2 says of any bytes.
func readRequest(b []byte) (r api.Request, e api.Errno) {
	defer func() {
		if recover() != nil {
			r, e = api.Request{}, text
		}
	}()
	c := cursor{slices.Clip(b)}
	r = c.request()
	if wrongRequest(r) || !bytes.Equal(laidRequest(r), b) {
		return api.Request{}, text
	}
	return r, ok
}

// readResponse is what P20.2 says of any bytes.
func readResponse(b []byte) (r api.Response, e api.Errno) {
	defer func() {
		if recover() != nil {
			r, e = api.Response{}, text
		}
	}()
	c := cursor{slices.Clip(b)}
	r = c.response()
	if wrongResponse(r) || !bytes.Equal(laidResponse(r), b) {
		return api.Response{}, text
	}
	return r, ok
}
