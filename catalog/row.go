package catalog

import (
	"bytes"

	"bollard/api"
	"bollard/bits"
)

// The file is a row for each topic that there may be: its name, filled up with bytes 0, then its numbers, the greatest byte first, then bytes 0. A row lies within one block: so who creates or deletes a topic writes no other one.
const (
	numbers     = 7
	numberBytes = 8
	rowBytes    = 128
	fileBytes   = api.MaxTopics * rowBytes
)

// numberAt is where a row has its i-th number.
func numberAt(i int) int {
	return api.MaxName + i*numberBytes
}

// number is a bool as a row has it.
func number(b bool) int {
	if b {
		return 1
	}
	return 0
}

// lay is the bytes of a topic's row. A row without a name tells no topic, but an ID that was given.
func lay(t Topic) []byte {
	b := make([]byte, rowBytes)
	copy(b, t.Name)
	s := t.Set
	for i, v := range [numbers]int{t.ID, t.Parts, s.Segment, s.Bytes, s.Age, number(s.Compact), s.Delay} {
		b, _ = bits.Put(b, numberAt(i), numberBytes, true, uint64(v))
	}
	return b
}

// topicOf is the topic that a row's bytes tell; false: they are not such as lay tells.
func topicOf(b []byte) (Topic, bool) {
	var l [numbers]int
	for i := range l {
		u, _ := bits.Get(b, numberAt(i), numberBytes, true)
		l[i] = int(u)
	}
	name, _, _ := bytes.Cut(b[:api.MaxName], []byte{0})
	s := api.Settings{Segment: l[2], Bytes: l[3], Age: l[4], Compact: l[5] != 0, Delay: l[6]}
	t := Topic{string(name), l[0], l[1], s}
	return t, bytes.Equal(lay(t), b)
}

// mayBe is whether a row may tell that.
func mayBe(t Topic) bool {
	switch {
	case t.ID < 0 || t.ID > mostID:
		return false
	case t.Name == "":
		return t == Topic{ID: t.ID}
	}
	return t.ID > 0 && allowed(t.Name, t.Parts, t.Set)
}

// unlay is the topics of a file's bytes, and the ID that was given last; false: they are not such as this package writes.
func unlay(b []byte) (topics map[key]entry, last int, ok bool) {
	if len(b) != fileBytes {
		return nil, 0, false
	}
	topics = map[key]entry{}
	given := map[int]struct{}{}
	for row := range api.MaxTopics {
		t, ok := topicOf(b[row*rowBytes : (row+1)*rowBytes])
		_, twice := given[t.ID]
		_, there := topics[keyOf(t.Name)]
		if !ok || !mayBe(t) || twice || there {
			return nil, 0, false
		}
		if t.ID > 0 {
			given[t.ID] = struct{}{}
		}
		if t.Name != "" {
			topics[keyOf(t.Name)] = entry{t, row}
		}
		last = max(last, t.ID)
	}
	return topics, last, true
}
