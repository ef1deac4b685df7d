package groups

import (
	"bollard/api"
	"bollard/bits"
	"bollard/dir"
)

// A record's key is Topic and Part, each as groups of seven digits, which tell themselves where they end, then Group; its value is the offset, likewise. A number has one such encoding: so a key has one, too.

// within is whether n is one of the numbers from least to most.
func within(n, least, most int) bool {
	return n >= least && n <= most
}

// isOffset is whether an offset can be committed.
func isOffset(n int) bool {
	return within(n, 0, api.MaxOffset)
}

// isTime is whether a time may be.
func isTime(n int) bool {
	return within(n, 0, api.MaxTime)
}

// mayBe is whether an offset can be committed for a key.
func (k Key) mayBe() bool {
	return dir.Name(k.Group) && within(k.Topic, 1, api.MaxOffset) && within(k.Part, 0, api.MaxParts-1)
}

// text is a number as a record has it.
func text(n int) string {
	return string(bits.Varint(uint64(n)))
}

// number is the number that s begins with, and what stands behind it; false: there is none. What is too great for an int comes out below 0: such a number may not be, either.
func number(s string) (n int, behind string, ok bool) {
	u, size := bits.Unvarint([]byte(s))
	return int(u), s[size:], size > 0
}

// lay is the record of a Commit.
func lay(k Key, offset, now int) api.Record {
	return api.Record{HasKey: true, Key: text(k.Topic) + text(k.Part) + k.Group, HasVal: true, Val: text(offset), Time: now}
}

// keyOf is the key that a record's tells; false: it tells none.
func keyOf(s string) (k Key, ok bool) {
	topic, behind, first := number(s)
	part, group, second := number(behind)
	k = Key{Group: group, Topic: topic, Part: part}
	return k, first && second && k.mayBe()
}

// unlay is the key and the offset that a record tells; false: it is not such as lay tells. A key or a value that is not there is empty, and no number is.
func unlay(r api.Record) (k Key, offset int, ok bool) {
	k, ok = keyOf(r.Key)
	offset, behind, there := number(r.Val)
	return k, offset, ok && there && behind == "" && isOffset(offset)
}
