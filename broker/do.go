package broker

import (
	"bollard/api"
	"bollard/batch"
	"bollard/catalog"
	"bollard/dir"
	"bollard/groups"
)

// nobody is the producer of batches that are not known by a number.
const nobody = 0

// Do answers a request.
func (b *Broker) Do(r api.Request, now int) api.Response {
	told, e := b.answer(r, now)
	if e != api.OK {
		told = api.Response{}
	}
	told.Kind, told.ID, told.Code = r.Kind, r.ID, e
	return told
}

// answer does what a request's Kind says, and tells what that tells.
func (b *Broker) answer(r api.Request, now int) (told api.Response, e api.Errno) {
	if b.off() {
		return told, api.ErrOff
	}
	switch r.Kind {
	case api.ReqCreate:
		_, e = b.topics.Create(r.Topic, r.Parts, r.Set)
		return told, e
	case api.ReqDelete:
		return told, b.delete(r.Topic)
	case api.ReqTopics:
		return b.names(), api.OK
	case api.ReqAppend:
		return b.append(r)
	case api.ReqFetch:
		return b.fetch(r)
	case api.ReqList:
		return b.list(r)
	case api.ReqCommit:
		return told, b.commit(r, now)
	case api.ReqOffset:
		return b.offset(r)
	}
	return told, api.ErrArg
}

// delete lets a topic be none; what it has is swept later.
func (b *Broker) delete(topic string) api.Errno {
	t, _ := b.topics.Find(topic)
	if e := b.topics.Delete(topic); e != api.OK {
		return e
	}
	for k := range t.Parts {
		delete(b.logs, place{t.ID, k})
	}
	return api.OK
}

// names is all topics.
func (b *Broker) names() (told api.Response) {
	for _, t := range b.topics.List() {
		told.Topics = append(told.Topics, t.Name)
		told.Parts = append(told.Parts, t.Parts)
	}
	return told
}

// bounds is an answer that tells where a partition begins and ends.
func (l log) bounds() api.Response {
	return api.Response{Start: l.Start(), Next: l.Next()}
}

// append adds a batch, if it is not in the log yet.
func (b *Broker) append(r api.Request) (told api.Response, e api.Errno) {
	t, l, e := b.find(r.Topic, r.Part)
	switch {
	case e != api.OK:
		return told, e
	case !mayAppend(t, r):
		return told, api.ErrArg
	}
	if _, e := batch.Fresh(l.Next(), r.Producer, r.Seq, r.Records); e != api.OK {
		return told, e
	}
	base, again, e := l.check(r)
	if e == api.OK && !again {
		base, e = b.lay(place{t.ID, r.Part}, l, r)
	}
	if e != api.OK {
		return told, e
	}
	told = l.bounds()
	told.Offset = base
	return told, api.OK
}

// mayAppend is whether a topic takes what a request has, as far as that hangs on the two alone.
func mayAppend(t catalog.Topic, r api.Request) bool {
	switch {
	case r.Producer < nobody:
		return false
	case r.Producer == nobody && r.Seq != 0:
		return false
	}
	return !t.Set.Compact || allKeyed(r.Records)
}

// allKeyed is whether each record has a key: one without would stay in a compacted log for ever.
func allKeyed(l []api.Record) bool {
	for _, r := range l {
		if !r.HasKey {
			return false
		}
	}
	return true
}

// check tells whether a batch is in the log already, and where. Of nobody's that is not known: each one is new.
func (l log) check(r api.Request) (base int, again bool, e api.Errno) {
	if r.Producer == nobody {
		return 0, false, api.OK
	}
	return l.known.Check(r.Producer, r.Seq)
}

// lay adds a batch, and lets its producer's number be known with it.
func (b *Broker) lay(at place, l log, r api.Request) (base int, e api.Errno) {
	e = b.f.Together(func() (e api.Errno) {
		if base, e = l.Append(r.Producer, r.Seq, r.Records); e != api.OK || r.Producer == nobody {
			return e
		}
		return l.known.Accept(r.Producer, r.Seq, base)
	})
	if e != api.OK {
		// One of the two may know what was undone: both are read again.
		delete(b.logs, at)
	}
	return base, e
}

// fetch reads batches.
func (b *Broker) fetch(r api.Request) (told api.Response, e api.Errno) {
	_, l, e := b.find(r.Topic, r.Part)
	if e != api.OK {
		return told, e
	}
	told = l.bounds()
	told.Batches, e = l.Read(r.Offset, r.Max)
	return told, e
}

// list finds a time.
func (b *Broker) list(r api.Request) (told api.Response, e api.Errno) {
	_, l, e := b.find(r.Topic, r.Part)
	if e != api.OK {
		return told, e
	}
	told = l.bounds()
	told.Offset = l.At(r.Time)
	return told, api.OK
}

// keyOf is whose offset a request speaks of.
func keyOf(t catalog.Topic, r api.Request) groups.Key {
	return groups.Key{Group: r.Group, Topic: t.ID, Part: r.Part}
}

// commit sets a group's offset.
func (b *Broker) commit(r api.Request, now int) api.Errno {
	t, there := b.has(r.Topic, r.Part)
	if !there {
		return api.ErrNone
	}
	return b.offsets.Commit(keyOf(t, r), r.Offset, now)
}

// offset finds a group's offset.
func (b *Broker) offset(r api.Request) (told api.Response, e api.Errno) {
	t, there := b.has(r.Topic, r.Part)
	switch {
	case !there:
		return told, api.ErrNone
	case !dir.Name(r.Group):
		return told, api.ErrArg
	}
	told.Offset, e = b.offsets.Find(keyOf(t, r))
	return told, e
}
