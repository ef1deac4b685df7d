package codec

import (
	"bollard/api"
	"bollard/batch"
	"bollard/bits"
)

// writer lays fields one behind the other. Once something may not be laid it is bad, and stays so.
type writer struct {
	laid []byte
	bad  bool
}

// end is all that was laid.
func (w *writer) end() ([]byte, api.Errno) {
	if w.bad {
		return nil, api.ErrArg
	}
	return w.laid, api.OK
}

// put lays the least size bytes of a number.
func (w *writer) put(size int, u uint64) {
	b, _ := bits.Put(make([]byte, size), 0, size, true, u)
	w.laid = append(w.laid, b...)
}

// natural lays a number that is 0 or above, if it can be told in so many bytes.
func (w *writer) natural(size, v int) {
	u, ok := bits.Narrow(v, 8*size, false)
	w.bad = w.bad || !ok
	w.put(size, u)
}

// number lays an int.
func (w *writer) number(v int) {
	w.put(intSize, uint64(v))
}

// text lays one behind its length.
func (w *writer) text(s string) {
	w.natural(lengthSize, len(s))
	if !w.bad {
		w.laid = append(w.laid, s...)
	}
}

// markOf is a record's first byte.
func markOf(r api.Record) (mark int) {
	if r.HasKey {
		mark |= withKey
	}
	if r.HasVal {
		mark |= withVal
	}
	return mark
}

// record lays one. Its bytes have no place for an Off, nor for a key or a value that is not there.
func (w *writer) record(r api.Record) {
	w.bad = w.bad || r.Off != 0 || r.Key != "" && !r.HasKey || r.Val != "" && !r.HasVal
	w.natural(markSize, markOf(r))
	if r.HasKey {
		w.text(r.Key)
	}
	if r.HasVal {
		w.text(r.Val)
	}
	w.number(r.Time)
}

// batch lays one that may be.
func (w *writer) batch(b api.Batch) {
	p, e := batch.Encode(b)
	w.bad = w.bad || e != api.OK
	w.laid = append(w.laid, p...)
}

// layRow lays how many there are, and then each, by one.
func layRow[T any](w *writer, l []T, one func(T)) {
	w.natural(lengthSize, len(l))
	for _, x := range l {
		// A row that is too long, or has a wrong thing, may be far longer: its rest is not looked at.
		if w.bad {
			return
		}
		one(x)
	}
}

// lay lays a field.
func (w *writer) lay(b body, f field) {
	switch kindOf(f) {
	case isInt:
		w.number(b.ints[f])
	case isFlag:
		w.natural(flagSize, b.ints[f])
	case isText:
		w.text(b.texts[f])
	case isRecords:
		layRow(w, b.records, w.record)
	case isNames:
		layRow(w, b.names, w.text)
	case isCounts:
		layRow(w, b.counts, w.number)
	case isBatches:
		layRow(w, b.batches, w.batch)
	}
}

// fields lays a row of fields, which are all that b may have.
func (w *writer) fields(b body, row []field) {
	w.bad = w.bad || b.hasMore(row)
	for _, f := range row {
		w.lay(b, f)
	}
}
