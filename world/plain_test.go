package world_test

import (
	"maps"
	"slices"
	"strings"

	"bollard/api"
)

// plain is a broker as the chapters say it: maps and lists, without a device, and so with room for all.
type plain struct {
	topics  map[string]*topic
	last    int           // the ID that was given last
	offsets map[whose]int // of topics that were deleted, too: they count
	left    int           // files and directories that deleted topics left
}

type whose struct {
	group string
	topic int
	part  int
}

type topic struct {
	id   int
	set  api.Settings
	logs []*plainLog
}

type plainLog struct {
	row   []plainSegment // the last one is active
	known map[int]accepted
}

type plainSegment struct {
	base    int
	batches []api.Batch
}

type accepted struct {
	seq  int
	base int
}

func newPlain() *plain {
	return &plain{topics: map[string]*topic{}, offsets: map[whose]int{}}
}

func (q *plain) clone() *plain {
	c := &plain{topics: map[string]*topic{}, last: q.last, offsets: maps.Clone(q.offsets), left: q.left}
	for name, x := range q.topics {
		y := &topic{id: x.id, set: x.set}
		for _, l := range x.logs {
			y.logs = append(y.logs, l.clone())
		}
		c.topics[name] = y
	}
	return c
}

func (l *plainLog) clone() *plainLog {
	c := &plainLog{known: maps.Clone(l.known)}
	for _, s := range l.row {
		c.row = append(c.row, plainSegment{s.base, slices.Clone(s.batches)})
	}
	return c
}

// isName is 9's Name.
func isName(s string) bool {
	return len(s) > 0 && len(s) <= 50 && s != "." && s != ".." && !strings.ContainsAny(s, "/\x00")
}

// isSet is 15's Settings.
func isSet(s api.Settings) bool {
	return s.Segment >= 512 && s.Segment <= 8192 && s.Bytes >= -1 && s.Bytes <= 1<<40 && s.Age >= -1 && s.Age <= end && s.Delay >= 0 && s.Delay <= end
}

// bytesOf is how many bytes a batch has.
func bytesOf(b api.Batch) int {
	return len(laidBatch(b))
}

// checked is 12's Check, but for Off.
func checked(r api.Record) api.Errno {
	switch {
	case !r.HasKey && r.Key != "" || !r.HasVal && r.Val != "" || r.Time < 0 || r.Time > end:
		return arg
	case len(r.Key) > 2000 || len(r.Val) > 2000:
		return big
	}
	return ok
}

// fresh is 13's Fresh.
func fresh(base, producer, seq int, l []api.Record) (api.Batch, api.Errno) {
	b := api.Batch{Base: base, Span: len(l), Producer: producer, Seq: seq, Records: slices.Clone(l)}
	if len(l) == 0 || len(l) > 100 || producer < 0 || seq < 0 || base > end {
		return api.Batch{}, arg
	}
	for i, r := range l {
		if e := checked(r); e != ok {
			return api.Batch{}, e
		}
		b.Records[i].Off = i
	}
	if bytesOf(b) > 6000 {
		return api.Batch{}, big
	}
	return b, ok
}

func (s plainSegment) size() (n int) {
	for _, b := range s.batches {
		n += bytesOf(b)
	}
	return n
}

// latest is 14's Last.
func (s plainSegment) latest() int {
	n := -1
	for _, b := range s.batches {
		for _, r := range b.Records {
			n = max(n, r.Time)
		}
	}
	return n
}

func (s plainSegment) next() int {
	if len(s.batches) == 0 {
		return s.base
	}
	b := s.batches[len(s.batches)-1]
	return b.Base + b.Span
}

func newLog() *plainLog {
	return &plainLog{row: []plainSegment{{}}, known: map[int]accepted{}}
}

func (l *plainLog) start() int           { return l.row[0].base }
func (l *plainLog) next() int            { return l.active().next() }
func (l *plainLog) active() plainSegment { return l.row[len(l.row)-1] }

// all is the batches, one behind the other.
func (l *plainLog) all() (all []api.Batch) {
	for _, s := range l.row {
		all = append(all, s.batches...)
	}
	return all
}

// add lays a batch.
func (l *plainLog) add(b api.Batch, set api.Settings) {
	if s := l.active(); len(s.batches) > 0 && s.size()+bytesOf(b) > set.Segment {
		l.row = append(l.row, plainSegment{base: b.Base})
	}
	s := &l.row[len(l.row)-1]
	s.batches = append(s.batches, b)
}

// read is 15's Read.
func (l *plainLog) read(offset, most int) ([]api.Batch, api.Errno) {
	switch {
	case most < 1:
		return nil, arg
	case offset < l.start() || offset > l.next():
		return nil, outside
	}
	var found []api.Batch
	size := 0
	for _, b := range l.all() {
		if b.Base+b.Span <= offset {
			continue
		}
		if size += bytesOf(b); len(found) > 0 && size > most {
			break
		}
		found = append(found, b)
	}
	return found, ok
}

// at is 15's At.
func (l *plainLog) at(time int) int {
	for _, b := range l.all() {
		for _, r := range b.Records {
			if r.Time >= time {
				return b.Base + r.Off
			}
		}
	}
	return l.next()
}

// retain is 15's Retain.
func (l *plainLog) retain(set api.Settings, now int) bool {
	if len(l.row) < 2 {
		return false
	}
	size := 0
	for _, s := range l.row[:len(l.row)-1] {
		size += s.size()
	}
	first := l.row[0].latest()
	tooMany := set.Bytes != -1 && size > set.Bytes
	tooOld := set.Age != -1 && (first == -1 || now > set.Age && now-set.Age > first)
	if tooMany || tooOld {
		l.row = l.row[1:]
		return true
	}
	return false
}

// stays is whether a record does, by 15's Compact.
func (l *plainLog) stays(set api.Settings, r api.Record, offset, now int) bool {
	if !r.HasKey {
		return true
	}
	for _, b := range l.all() {
		for _, x := range b.Records {
			if b.Base+x.Off > offset && x.HasKey && x.Key == r.Key {
				return false
			}
		}
	}
	return r.HasVal || now < set.Delay || now-set.Delay <= r.Time
}

// compact is 15's Compact.
func (l *plainLog) compact(set api.Settings, now int) bool {
	for i, s := range l.row[:len(l.row)-1] {
		var kept []api.Batch
		less := false
		for _, b := range s.batches {
			var records []api.Record
			for _, r := range b.Records {
				if l.stays(set, r, b.Base+r.Off, now) {
					records = append(records, r)
				}
			}
			less = less || len(records) < len(b.Records)
			if b.Records = records; len(records) > 0 {
				kept = append(kept, b)
			}
		}
		if less {
			l.row[i].batches = kept
			return true
		}
	}
	return false
}

// find is a topic and its partition, or nothing.
func (q *plain) find(name string, part int) (*topic, *plainLog) {
	x := q.topics[name]
	if x == nil || part < 0 || part >= len(x.logs) {
		return nil, nil
	}
	return x, x.logs[part]
}

// do is what P21.2's table says.
func (q *plain) do(r api.Request, now int) api.Response {
	told := api.Response{}
	e := arg
	switch r.Kind {
	case 1:
		e = q.create(r)
	case 2:
		e = q.delete(r.Topic)
	case 3:
		told, e = q.names(), ok
	case 4:
		told, e = q.append(r)
	case 5, 6:
		told, e = q.look(r)
	case 7:
		e = q.commit(r, now)
	case 8:
		told, e = q.offset(r)
	}
	if e != ok {
		told = api.Response{}
	}
	told.Kind, told.ID, told.Code = r.Kind, r.ID, e
	return told
}

func (q *plain) create(r api.Request) api.Errno {
	switch {
	case !isName(r.Topic) || r.Parts < 1 || r.Parts > 8 || !isSet(r.Set):
		return arg
	case q.topics[r.Topic] != nil:
		return exist
	case len(q.topics) == 20:
		return big
	}
	q.last++
	x := &topic{id: q.last, set: r.Set}
	for range r.Parts {
		x.logs = append(x.logs, newLog())
	}
	q.topics[r.Topic] = x
	return ok
}

func (q *plain) delete(name string) api.Errno {
	x := q.topics[name]
	if x == nil {
		return none
	}
	for _, l := range x.logs {
		q.left += len(l.row) + 2 // its segments, its producers, and the directory
	}
	delete(q.topics, name)
	return ok
}

func (q *plain) names() (told api.Response) {
	for _, name := range slices.Sorted(maps.Keys(q.topics)) {
		told.Topics = append(told.Topics, name)
		told.Parts = append(told.Parts, len(q.topics[name].logs))
	}
	return told
}

func (q *plain) append(r api.Request) (told api.Response, e api.Errno) {
	x, l := q.find(r.Topic, r.Part)
	switch {
	case x == nil:
		return told, none
	case r.Producer < 0 || r.Producer == 0 && r.Seq != 0:
		return told, arg
	case x.set.Compact && slices.ContainsFunc(r.Records, func(r api.Record) bool { return !r.HasKey }):
		return told, arg
	}
	b, e := fresh(l.next(), r.Producer, r.Seq, r.Records)
	if e != ok {
		return told, e
	}
	was, known := l.known[r.Producer]
	switch {
	case r.Producer == 0:
	case !known && len(l.known) == 60:
		return told, big
	case !known && r.Seq != 0:
		return told, gap
	case known && r.Seq == was.seq:
		return api.Response{Offset: was.base, Start: l.start(), Next: l.next()}, ok
	case known && r.Seq-1 != was.seq:
		return told, gap
	}
	l.add(b, x.set)
	if r.Producer > 0 {
		l.known[r.Producer] = accepted{r.Seq, b.Base}
	}
	return api.Response{Offset: b.Base, Start: l.start(), Next: l.next()}, ok
}

// look is fetch and list.
func (q *plain) look(r api.Request) (told api.Response, e api.Errno) {
	x, l := q.find(r.Topic, r.Part)
	if x == nil {
		return told, none
	}
	told = api.Response{Start: l.start(), Next: l.next()}
	if r.Kind == 5 {
		told.Batches, e = l.read(r.Offset, r.Max)
		return told, e
	}
	told.Offset = l.at(r.Time)
	return told, ok
}

func (q *plain) commit(r api.Request, now int) api.Errno {
	x, _ := q.find(r.Topic, r.Part)
	if x == nil {
		return none
	}
	key := whose{r.Group, x.id, r.Part}
	_, known := q.offsets[key]
	switch {
	case !isName(r.Group) || r.Offset < 0 || r.Offset > end || now < 0 || now > end:
		return arg
	case !known && len(q.offsets) == 200:
		return big
	}
	q.offsets[key] = r.Offset
	return ok
}

func (q *plain) offset(r api.Request) (told api.Response, e api.Errno) {
	x, _ := q.find(r.Topic, r.Part)
	switch {
	case x == nil:
		return told, none
	case !isName(r.Group):
		return told, arg
	}
	n, known := q.offsets[whose{r.Group, x.id, r.Part}]
	if !known {
		return told, none
	}
	return api.Response{Offset: n}, ok
}

func (q *plain) retain(name string, part, now int) (bool, api.Errno) {
	x, l := q.find(name, part)
	if x == nil {
		return false, none
	}
	return l.retain(x.set, now), ok
}

func (q *plain) compact(name string, part, now int) (bool, api.Errno) {
	x, l := q.find(name, part)
	if x == nil {
		return false, none
	}
	return x.set.Compact && l.compact(x.set, now), ok
}

func (q *plain) sweep() bool {
	if q.left == 0 {
		return false
	}
	q.left--
	return true
}
