package world_test

import (
	"bytes"
	"encoding/binary"
	"hash/crc32"
	"slices"

	"bollard/api"
)

// Here bytes are laid and read by the library, as the chapters 13, 19 and 20 tell them.

func laidInts(b []byte, l ...int) []byte {
	for _, v := range l {
		b = binary.BigEndian.AppendUint64(b, uint64(int64(v)))
	}
	return b
}

func laidText(b []byte, s string) []byte {
	return append(binary.BigEndian.AppendUint16(b, uint16(len(s))), s...)
}

func laidRecords(b []byte, l []api.Record) []byte {
	b = binary.BigEndian.AppendUint16(b, uint16(len(l)))
	for _, r := range l {
		mark := len(b)
		b = append(b, 0)
		if r.HasKey {
			b[mark]++
			b = laidText(b, r.Key)
		}
		if r.HasVal {
			b[mark] += 2
			b = laidText(b, r.Val)
		}
		b = laidInts(b, r.Time)
	}
	return b
}

// laidRequest is the bytes of one that may be.
func laidRequest(r api.Request) []byte {
	b := binary.BigEndian.AppendUint32([]byte{byte(r.Kind)}, uint32(r.ID))
	switch r.Kind {
	case 1:
		b = laidInts(laidText(b, r.Topic), r.Parts, r.Set.Segment, r.Set.Bytes, r.Set.Age)
		b = append(b, 0)
		if r.Set.Compact {
			b[len(b)-1] = 1
		}
		b = laidInts(b, r.Set.Delay)
	case 2:
		b = laidText(b, r.Topic)
	case 4:
		b = laidRecords(laidInts(laidText(b, r.Topic), r.Part, r.Producer, r.Seq), r.Records)
	case 5:
		b = laidInts(laidText(b, r.Topic), r.Part, r.Offset, r.Max)
	case 6:
		b = laidInts(laidText(b, r.Topic), r.Part, r.Time)
	case 7:
		b = laidInts(laidText(laidText(b, r.Group), r.Topic), r.Part, r.Offset)
	case 8:
		b = laidInts(laidText(laidText(b, r.Group), r.Topic), r.Part)
	}
	return b
}

// laidBatch is 13's bytes of a batch.
func laidBatch(b api.Batch) []byte {
	in := laidInts(nil, b.Producer, b.Seq)
	in = binary.BigEndian.AppendUint32(in, uint32(b.Span))
	in = binary.BigEndian.AppendUint32(in, uint32(len(b.Records)))
	in = laidInts(in, b.Records[0].Time)
	for _, r := range b.Records {
		mark := len(in)
		in = append(in, 0)
		in = binary.AppendUvarint(in, uint64(r.Off))
		in = binary.AppendVarint(in, int64(r.Time-b.Records[0].Time))
		if r.HasKey {
			in[mark]++
			in = append(binary.AppendUvarint(in, uint64(len(r.Key))), r.Key...)
		}
		if r.HasVal {
			in[mark] += 2
			in = append(binary.AppendUvarint(in, uint64(len(r.Val))), r.Val...)
		}
	}
	out := laidInts(nil, b.Base)
	out = binary.BigEndian.AppendUint32(out, uint32(4+len(in)))
	out = binary.BigEndian.AppendUint32(out, crc32.Checksum(in, crc32.MakeTable(crc32.Castagnoli)))
	return append(out, in...)
}

// laidResponse is the bytes of one that may be.
func laidResponse(r api.Response) []byte {
	b := binary.BigEndian.AppendUint32([]byte{byte(r.Kind)}, uint32(r.ID))
	b = append(b, byte(r.Code))
	if r.Code != 0 {
		return b
	}
	switch r.Kind {
	case 3:
		b = binary.BigEndian.AppendUint16(b, uint16(len(r.Topics)))
		for _, s := range r.Topics {
			b = laidText(b, s)
		}
		b = laidInts(binary.BigEndian.AppendUint16(b, uint16(len(r.Parts))), r.Parts...)
	case 4, 6:
		b = laidInts(b, r.Offset, r.Start, r.Next)
	case 5:
		b = binary.BigEndian.AppendUint16(laidInts(b, r.Start, r.Next), uint16(len(r.Batches)))
		for _, x := range r.Batches {
			b = append(b, laidBatch(x)...)
		}
	case 8:
		b = laidInts(b, r.Offset)
	}
	return b
}

// length is one, whatever it tells.
func length(n uint32) []byte {
	return binary.BigEndian.AppendUint32(nil, n)
}

// framed is a frame of these bytes.
func framed(b ...byte) []byte {
	return append(length(uint32(len(b))), b...)
}

// asked is the frames of requests, one behind the other.
func asked(l ...api.Request) (b []byte) {
	for _, r := range l {
		b = append(b, framed(laidRequest(r)...)...)
	}
	return b
}

// told is the frames of responses, one behind the other.
func told(l ...api.Response) (b []byte) {
	for _, r := range l {
		b = append(b, framed(laidResponse(r)...)...)
	}
	return b
}

// cursor reads bytes from the first to the last.
type cursor struct {
	left  []byte
	short bool // they ended too early
}

func (c *cursor) take(n int) []byte {
	if n > len(c.left) {
		c.short, c.left = true, nil
		return make([]byte, n)
	}
	b := c.left[:n]
	c.left = c.left[n:]
	return b
}

func (c *cursor) byte() byte   { return c.take(1)[0] }
func (c *cursor) int() int     { return int(int64(binary.BigEndian.Uint64(c.take(8)))) }
func (c *cursor) count() int   { return int(binary.BigEndian.Uint16(c.take(2))) }
func (c *cursor) text() string { return string(c.take(c.count())) }

func (c *cursor) records() (l []api.Record) {
	for n := c.count(); n > 0 && !c.short; n-- {
		marks := c.byte()
		r := api.Record{HasKey: marks&1 > 0, HasVal: marks&2 > 0}
		if r.HasKey {
			r.Key = c.text()
		}
		if r.HasVal {
			r.Val = c.text()
		}
		r.Time = c.int()
		l = append(l, r)
	}
	return l
}

// readRequest is the request whose bytes these are, if there is one: laid again it must be the same bytes.
func readRequest(b []byte) (r api.Request, is bool) {
	c := &cursor{left: slices.Clone(b)}
	r.Kind = int(c.byte())
	r.ID = int(binary.BigEndian.Uint32(c.take(4)))
	switch r.Kind {
	case 1:
		r.Topic, r.Parts = c.text(), c.int()
		r.Set = api.Settings{Segment: c.int(), Bytes: c.int(), Age: c.int(), Compact: c.byte() == 1, Delay: c.int()}
	case 2:
		r.Topic = c.text()
	case 3:
	case 4:
		r.Topic, r.Part, r.Producer, r.Seq, r.Records = c.text(), c.int(), c.int(), c.int(), c.records()
	case 5:
		r.Topic, r.Part, r.Offset, r.Max = c.text(), c.int(), c.int(), c.int()
	case 6:
		r.Topic, r.Part, r.Time = c.text(), c.int(), c.int()
	case 7:
		r.Group, r.Topic, r.Part, r.Offset = c.text(), c.text(), c.int(), c.int()
	case 8:
		r.Group, r.Topic, r.Part = c.text(), c.text(), c.int()
	default:
		return r, false
	}
	return r, !c.short && bytes.Equal(laidRequest(r), b)
}
