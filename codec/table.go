package codec

import (
	"bollard/api"
)

// Sizes of numbers, in bytes.
const (
	kindSize   = 1
	idSize     = 4
	codeSize   = 1
	flagSize   = 1
	markSize   = 1 // of a record's first byte
	lengthSize = 2 // of how long a text is, and how many things a row has
	intSize    = 8
)

// What a record's first byte is made of.
const (
	withKey = 1 << iota
	withVal
)

// fieldKind is what a field is made of.
type fieldKind int

const (
	isInt fieldKind = iota
	isFlag
	isText
	isRecords
	isNames
	isCounts
	isBatches
)

// field is one that a request or a response may have.
type field int

const (
	topic field = iota
	group
	part
	parts
	segment
	kept // Set.Bytes
	age
	compact
	delay
	producer
	seq
	records
	offset
	atMost // Max
	time
	start
	next
	names  // a response's Topics
	counts // and its Parts
	batches
	fieldCount
)

// kindOf is what a field is made of.
func kindOf(f field) fieldKind {
	switch f {
	case topic, group:
		return isText
	case compact:
		return isFlag
	case records:
		return isRecords
	case names:
		return isNames
	case counts:
		return isCounts
	case batches:
		return isBatches
	}
	return isInt
}

// way is where bytes go.
type way int

const (
	ask    way = iota // to the broker
	answer            // from it
)

// noKind is the Kind of a response to what was no request.
const noKind = 0

// key is what tells which fields stand in bytes.
type key struct {
	way  way
	kind int
}

// rowOf is the fields of a Kind, in order; false, if there is no such Kind.
func rowOf(w way, kind int) (row []field, ok bool) {
	rows := map[key][]field{
		{ask, api.ReqCreate}: {topic, parts, segment, kept, age, compact, delay},
		{ask, api.ReqDelete}: {topic},
		{ask, api.ReqTopics}: {},
		{ask, api.ReqAppend}: {topic, part, producer, seq, records},
		{ask, api.ReqFetch}:  {topic, part, offset, atMost},
		{ask, api.ReqList}:   {topic, part, time},
		{ask, api.ReqCommit}: {group, topic, part, offset},
		{ask, api.ReqOffset}: {group, topic, part},

		{answer, noKind}:        {},
		{answer, api.ReqCreate}: {},
		{answer, api.ReqDelete}: {},
		{answer, api.ReqTopics}: {names, counts},
		{answer, api.ReqAppend}: {offset, start, next},
		{answer, api.ReqFetch}:  {start, next, batches},
		{answer, api.ReqList}:   {offset, start, next},
		{answer, api.ReqCommit}: {},
		{answer, api.ReqOffset}: {offset},
	}
	row, ok = rows[key{w, kind}]
	return row, ok
}

// answerRow is a response's fields: none beside a Code that is not 0, which noKind always has.
func answerRow(kind int, code api.Errno) (row []field, ok bool) {
	row, ok = rowOf(answer, kind)
	if code != api.OK {
		return nil, ok
	}
	return row, ok && kind != noKind
}
