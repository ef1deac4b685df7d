package codec

import (
	"bollard/api"
	"bollard/batch"
	"bollard/bits"
)

// reader takes what a writer lays from the bytes that are left. Once something is not there it is bad, and stays so.
type reader struct {
	left []byte
	bad  bool
}

// fail leaves nothing to be taken: what is asked for from here on is zero.
func (p *reader) fail() {
	p.left, p.bad = nil, true
}

// ended is whether all was there, and nothing more.
func (p *reader) ended() bool {
	return !p.bad && len(p.left) == 0
}

// get takes a number of size bytes.
func (p *reader) get(size int) (u uint64) {
	u, ok := bits.Get(p.left, 0, size, true)
	if !ok {
		p.fail()
		return 0
	}
	p.left = p.left[size:]
	return u
}

// natural takes a number that is 0 or above; its size is below an int's.
func (p *reader) natural(size int) int {
	return int(p.get(size))
}

// number takes an int.
func (p *reader) number() int {
	return int(p.get(intSize))
}

// upTo takes a number that may not be above most.
func (p *reader) upTo(size, most int) (v int) {
	if v = p.natural(size); v > most {
		p.fail()
		return 0
	}
	return v
}

// text takes one behind its length.
func (p *reader) text() (s string) {
	n := p.natural(lengthSize)
	if n > len(p.left) {
		p.fail()
		return ""
	}
	s = string(p.left[:n])
	p.left = p.left[n:]
	return s
}

// record takes one.
func (p *reader) record() (r api.Record) {
	mark := p.upTo(markSize, withKey|withVal)
	r.HasKey = mark&withKey != 0
	r.HasVal = mark&withVal != 0
	if r.HasKey {
		r.Key = p.text()
	}
	if r.HasVal {
		r.Val = p.text()
	}
	r.Time = p.number()
	return r
}

// batch takes one.
func (p *reader) batch() api.Batch {
	b, n, e := batch.Decode(p.left)
	if e != api.OK {
		p.fail()
		return api.Batch{}
	}
	p.left = p.left[n:]
	return b
}

// takeRow takes how many there are, and then each, by one.
func takeRow[T any](p *reader, one func() T) (l []T) {
	// Nothing is made for all of them ahead: they may be far more than there is.
	for range p.natural(lengthSize) {
		x := one()
		if p.bad {
			return nil
		}
		l = append(l, x)
	}
	return l
}

// take takes a field into b.
func (p *reader) take(b *body, f field) {
	switch kindOf(f) {
	case isInt:
		b.ints[f] = p.number()
	case isFlag:
		b.ints[f] = p.upTo(flagSize, 1)
	case isText:
		b.texts[f] = p.text()
	case isRecords:
		b.records = takeRow(p, p.record)
	case isNames:
		b.names = takeRow(p, p.text)
	case isCounts:
		b.counts = takeRow(p, p.number)
	case isBatches:
		b.batches = takeRow(p, p.batch)
	}
}

// fields takes a row of fields.
func (p *reader) fields(row []field) (b body) {
	for _, f := range row {
		p.take(&b, f)
	}
	return b
}
