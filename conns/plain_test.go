package conns_test

import (
	"maps"
	"slices"
	"strings"

	"bollard/api"
)

// plain is a broker as the chapters say it: maps and lists, without a device, and so with room for all.
type plain struct {
	topics  map[string]*topic
	last    int           // the ID that was given last
	offsets map[whose]int // of topics that were deleted, too: they count
}

type whose struct {
	group string
	topic int
	part  int
}

type topic struct {
	id      int
	compact bool
	logs    []*plainLog
}

type plainLog struct {
	batches []api.Batch
	known   map[int]accepted
}

type accepted struct {
	seq  int
	base int
}

func newPlain() *plain {
	return &plain{topics: map[string]*topic{}, offsets: map[whose]int{}}
}

func (q *plain) clone() *plain {
	c := &plain{topics: map[string]*topic{}, last: q.last, offsets: maps.Clone(q.offsets)}
	for name, x := range q.topics {
		y := &topic{id: x.id, compact: x.compact}
		for _, l := range x.logs {
			y.logs = append(y.logs, &plainLog{slices.Clone(l.batches), maps.Clone(l.known)})
		}
		c.topics[name] = y
	}
	return c
}

// isName is 9's Name.
func isName(s string) bool {
	return len(s) > 0 && len(s) <= 50 && s != "." && s != ".." && !strings.ContainsAny(s, "/\x00")
}

// isSet is 15's Settings.
func isSet(s api.Settings) bool {
	return s.Segment >= 512 && s.Segment <= 8192 && s.Bytes >= -1 && s.Bytes <= 1<<40 && s.Age >= -1 && s.Age <= end && s.Delay >= 0 && s.Delay <= end
}

// checked is 12's Check, but for Off.
func checked(r api.Record) api.Errno {
	switch {
	case !r.HasKey && r.Key != "" || !r.HasVal && r.Val != "" || r.Time < 0 || r.Time > end:
		return arg
	case len(r.Key) > 2000 || len(r.Val) > 2000:
		return big
	}
	return ok
}

// fresh is 13's Fresh.
func fresh(base, producer, seq int, l []api.Record) (api.Batch, api.Errno) {
	b := api.Batch{Base: base, Span: len(l), Producer: producer, Seq: seq, Records: slices.Clone(l)}
	if len(l) == 0 || len(l) > 100 || producer < 0 || seq < 0 || base > end {
		return api.Batch{}, arg
	}
	for i, r := range l {
		if e := checked(r); e != ok {
			return api.Batch{}, e
		}
		b.Records[i].Off = i
	}
	if len(laidBatch(b)) > 6000 {
		return api.Batch{}, big
	}
	return b, ok
}

func (l *plainLog) next() int {
	if len(l.batches) == 0 {
		return 0
	}
	b := l.batches[len(l.batches)-1]
	return b.Base + b.Span
}

// read is 15's Read.
func (l *plainLog) read(offset, most int) ([]api.Batch, api.Errno) {
	switch {
	case most < 1:
		return nil, arg
	case offset < 0 || offset > l.next():
		return nil, outside
	}
	var found []api.Batch
	size := 0
	for _, b := range l.batches {
		if b.Base+b.Span <= offset {
			continue
		}
		if size += len(laidBatch(b)); len(found) > 0 && size > most {
			break
		}
		found = append(found, b)
	}
	return found, ok
}

// at is 15's At.
func (l *plainLog) at(time int) int {
	for _, b := range l.batches {
		for _, r := range b.Records {
			if r.Time >= time {
				return b.Base + r.Off
			}
		}
	}
	return l.next()
}

// find is a topic and its partition, or nothing.
func (q *plain) find(name string, part int) (*topic, *plainLog) {
	x := q.topics[name]
	if x == nil || part < 0 || part >= len(x.logs) {
		return nil, nil
	}
	return x, x.logs[part]
}

// do is what P21.2's table says. Nothing is retained or compacted here, so all logs begin at 0.
func (q *plain) do(r api.Request, now int) api.Response {
	told := api.Response{}
	e := arg
	switch r.Kind {
	case 1:
		e = q.create(r)
	case 2:
		e = q.delete(r.Topic)
	case 3:
		told, e = q.names(), ok
	case 4:
		told, e = q.append(r)
	case 5, 6:
		told, e = q.look(r)
	case 7:
		e = q.commit(r, now)
	case 8:
		told, e = q.offset(r)
	}
	if e != ok {
		told = api.Response{}
	}
	told.Kind, told.ID, told.Code = r.Kind, r.ID, e
	return told
}

func (q *plain) create(r api.Request) api.Errno {
	switch {
	case !isName(r.Topic) || r.Parts < 1 || r.Parts > 8 || !isSet(r.Set):
		return arg
	case q.topics[r.Topic] != nil:
		return exist
	case len(q.topics) == 20:
		return big
	}
	q.last++
	x := &topic{id: q.last, compact: r.Set.Compact}
	for range r.Parts {
		x.logs = append(x.logs, &plainLog{known: map[int]accepted{}})
	}
	q.topics[r.Topic] = x
	return ok
}

func (q *plain) delete(name string) api.Errno {
	if q.topics[name] == nil {
		return none
	}
	delete(q.topics, name)
	return ok
}

func (q *plain) names() (told api.Response) {
	for _, name := range slices.Sorted(maps.Keys(q.topics)) {
		told.Topics = append(told.Topics, name)
		told.Parts = append(told.Parts, len(q.topics[name].logs))
	}
	return told
}

func (q *plain) append(r api.Request) (told api.Response, e api.Errno) {
	x, l := q.find(r.Topic, r.Part)
	switch {
	case x == nil:
		return told, none
	case r.Producer < 0 || r.Producer == 0 && r.Seq != 0:
		return told, arg
	case x.compact && slices.ContainsFunc(r.Records, func(r api.Record) bool { return !r.HasKey }):
		return told, arg
	}
	b, e := fresh(l.next(), r.Producer, r.Seq, r.Records)
	if e != ok {
		return told, e
	}
	was, known := l.known[r.Producer]
	switch {
	case r.Producer == 0:
	case !known && len(l.known) == 60:
		return told, big
	case !known && r.Seq != 0:
		return told, gap
	case known && r.Seq == was.seq:
		return api.Response{Offset: was.base, Next: l.next()}, ok
	case known && r.Seq-1 != was.seq:
		return told, gap
	}
	l.batches = append(l.batches, b)
	if r.Producer > 0 {
		l.known[r.Producer] = accepted{r.Seq, b.Base}
	}
	return api.Response{Offset: b.Base, Next: l.next()}, ok
}

// look is fetch and list.
func (q *plain) look(r api.Request) (told api.Response, e api.Errno) {
	x, l := q.find(r.Topic, r.Part)
	if x == nil {
		return told, none
	}
	told = api.Response{Next: l.next()}
	if r.Kind == 5 {
		told.Batches, e = l.read(r.Offset, r.Max)
		return told, e
	}
	told.Offset = l.at(r.Time)
	return told, ok
}

func (q *plain) commit(r api.Request, now int) api.Errno {
	x, _ := q.find(r.Topic, r.Part)
	if x == nil {
		return none
	}
	key := whose{r.Group, x.id, r.Part}
	_, known := q.offsets[key]
	switch {
	case !isName(r.Group) || r.Offset < 0 || r.Offset > end || now < 0 || now > end:
		return arg
	case !known && len(q.offsets) == 200:
		return big
	}
	q.offsets[key] = r.Offset
	return ok
}

func (q *plain) offset(r api.Request) (told api.Response, e api.Errno) {
	x, _ := q.find(r.Topic, r.Part)
	switch {
	case x == nil:
		return told, none
	case !isName(r.Group):
		return told, arg
	}
	n, known := q.offsets[whose{r.Group, x.id, r.Part}]
	if !known {
		return told, none
	}
	return api.Response{Offset: n}, ok
}

// looks are requests that only look, at all that the plain broker has.
func (q *plain) looks() []api.Request {
	l := []api.Request{topics()}
	for _, name := range slices.Sorted(maps.Keys(q.topics)) {
		for n, log := range q.topics[name].logs {
			l = append(l, fetch(name, n, 0, most), fetch(name, n, log.next(), 1), list(name, n, 0), list(name, n, end))
			for _, p := range slices.Sorted(maps.Keys(log.known)) { // its last batch comes again, and is not new
				l = append(l, add(name, n, p, log.known[p].seq, rec("again", "", 0)))
			}
		}
		for _, group := range []string{"g", "h", "i", "j", "new", "goes on", "nobody"} { // those that are not known, too
			for n := range q.topics[name].logs {
				l = append(l, offset(group, name, n))
			}
		}
	}
	return l
}
