package shell

import (
	"strconv"
	"strings"

	"bollard/api"
	"bollard/bits"
)

// reader reads a line's words one by one. Once something is wrong it is bad, and stays so.
type reader struct {
	left []string
	bad  bool
}

// split begins a line.
func split(line string) *reader {
	return &reader{left: strings.Split(line, blank)}
}

// ended is whether all that was read was right, and nothing is left.
func (l *reader) ended() bool {
	return !l.bad && len(l.left) == 0
}

// must is what the line is bad without.
func (l *reader) must(ok bool) {
	l.bad = l.bad || !ok
}

// word reads the next one. One that is empty stands at a blank too many.
func (l *reader) word() (w string) {
	if len(l.left) > 0 {
		w, l.left = l.left[0], l.left[1:]
	}
	l.must(w != "")
	return w
}

// mark reads a word that says nothing, but must be there.
func (l *reader) mark(w string) {
	l.must(l.word() == w)
}

// numberOf is what a word says as a number.
func numberOf(w string) (int, bool) {
	n, err := strconv.Atoi(w)
	// A number has one form alone, and Atoi reads more of them.
	return n, err == nil && strconv.Itoa(n) == w
}

// number reads one.
func (l *reader) number() int {
	n, ok := numberOf(l.word())
	l.must(ok)
	return n
}

// numbers reads those that are next, however few.
func (l *reader) numbers() (row []int) {
	for len(l.left) > 0 {
		if _, ok := numberOf(l.left[0]); !ok {
			break
		}
		row = append(row, l.number())
	}
	return row
}

// flag reads a 0 or a 1.
func (l *reader) flag() bool {
	n := l.number()
	l.must(n == 0 || n == 1)
	return n == 1
}

// digit is what a hexadecimal digit stands for.
func (l *reader) digit(c byte) byte {
	// Whatever is no digit has the place -1, and that is none of four binary digits.
	u, ok := bits.Narrow(strings.IndexByte(digits, c), 4, false)
	l.must(ok)
	return byte(u)
}

// bytes reads a word of hexadecimal digits, two a byte.
func (l *reader) bytes() []byte {
	w := l.word()
	l.must(len(w)%2 == 0)
	b := make([]byte, len(w)/2)
	for i := range b {
		b[i] = l.digit(w[2*i])<<4 | l.digit(w[2*i+1])
	}
	return b
}

// request reads what one of that name says, at a time.
func (l *reader) request(name string, now int) api.Request {
	switch name {
	case "create":
		return api.Request{Kind: api.ReqCreate, Topic: l.word(), Parts: l.number(), Set: l.settings()}
	case "delete":
		return api.Request{Kind: api.ReqDelete, Topic: l.word()}
	case "topics":
		return api.Request{Kind: api.ReqTopics}
	case "append":
		return api.Request{Kind: api.ReqAppend, Topic: l.word(), Part: l.number(), Producer: l.number(), Seq: l.number(), Records: l.records(now)}
	case "fetch":
		return api.Request{Kind: api.ReqFetch, Topic: l.word(), Part: l.number(), Offset: l.number(), Max: l.number()}
	case "list":
		return api.Request{Kind: api.ReqList, Topic: l.word(), Part: l.number(), Time: l.number()}
	case "commit":
		return api.Request{Kind: api.ReqCommit, Group: l.word(), Topic: l.word(), Part: l.number(), Offset: l.number()}
	case "offset":
		return api.Request{Kind: api.ReqOffset, Group: l.word(), Topic: l.word(), Part: l.number()}
	}
	l.must(false)
	return api.Request{}
}

// settings reads a topic's.
func (l *reader) settings() api.Settings {
	return api.Settings{Segment: l.number(), Bytes: l.number(), Age: l.number(), Compact: l.flag(), Delay: l.number()}
}

// records reads all words that are left, of which there must be one.
func (l *reader) records(now int) []api.Record {
	row := []api.Record{l.record(now)}
	for len(l.left) > 0 {
		row = append(row, l.record(now))
	}
	return row
}

// record reads one.
func (l *reader) record(now int) api.Record {
	key, val, ok := strings.Cut(l.word(), equals)
	l.must(ok)
	r := api.Record{Time: now}
	if key != nothing {
		r.HasKey, r.Key = true, key
	}
	if val != nothing {
		r.HasVal, r.Val = true, val
	}
	return r
}
