package part

import (
	"slices"

	"bollard/api"
	"bollard/segment"
)

// mark is what a record is known by: its key, or that it has none, which is not the same as an empty one.
type mark struct {
	has bool
	key string
}

// place is where a record stands: in which segment, and at which offset.
type place struct {
	base   int
	offset int
}

func markOf(r api.Record) mark {
	return mark{r.HasKey, r.Key}
}

func placeOf(s *segment.Segment, b api.Batch, r api.Record) place {
	return place{s.Base(), b.Base + r.Off}
}

// lasts is where the last record of each mark stands.
func (p *Part) lasts() map[mark]place {
	last := map[mark]place{}
	for _, s := range p.row {
		for _, b := range s.All() {
			for _, r := range b.Records {
				last[markOf(r)] = placeOf(s, b, r)
			}
		}
	}
	return last
}

// isTombstone is whether a record says that its key has no value any more.
func isTombstone(r api.Record) bool {
	return r.HasKey && !r.HasVal
}

// outdated is whether a record is a tombstone that was there for long enough.
func (p *Part) outdated(r api.Record, now int) bool {
	return isTombstone(r) && r.Time+p.set.Delay < now
}

// Compact writes a segment anew.
func (p *Part) Compact(now int) (bool, api.Errno) {
	if !p.stands() {
		return false, api.ErrOff
	}
	last := p.lasts()
	for i, s := range p.sealed() {
		kept, less := thin(s.All(), func(b api.Batch, r api.Record) bool {
			return !r.HasKey || last[markOf(r)] == placeOf(s, b, r) && !p.outdated(r, now)
		})
		if !less {
			continue
		}
		fresh, e := p.rewrite(s.Base(), kept)
		if e != api.OK {
			return false, e
		}
		p.row[i] = fresh
		return true, api.OK
	}
	return false, api.OK
}

// thin is batches with those records that stay, without the batches of which none does; less: some record does not.
func thin(l []api.Batch, stays func(api.Batch, api.Record) bool) (kept []api.Batch, less bool) {
	for _, b := range l {
		all := len(b.Records)
		b.Records = slices.DeleteFunc(b.Records, func(r api.Record) bool { return !stays(b, r) })
		less = less || len(b.Records) < all
		if len(b.Records) > 0 {
			kept = append(kept, b)
		}
	}
	return kept, less
}

// rewrite lets the segment of a base have those batches and no others.
func (p *Part) rewrite(base int, l []api.Batch) (*segment.Segment, api.Errno) {
	path := p.path(base)
	var s *segment.Segment
	e := p.f.Together(func() (e api.Errno) {
		if e = p.lay(path+beside, base, l); e != api.OK {
			return e
		}
		if e = p.f.Rename(path+beside, path); e != api.OK {
			return e
		}
		s, e = segment.Open(p.f, path, base)
		return e
	})
	if e != api.OK {
		return nil, e
	}
	return s, api.OK
}

// lay makes a file of batches, in the place of what is there.
func (p *Part) lay(path string, base int, l []api.Batch) api.Errno {
	if e := p.f.Remove(path); e != api.OK && e != api.ErrNone {
		return e
	}
	s, e := segment.Make(p.f, path, base)
	if e != api.OK {
		return e
	}
	for _, b := range l {
		if e := s.Append(b); e != api.OK {
			return e
		}
	}
	return api.OK
}
