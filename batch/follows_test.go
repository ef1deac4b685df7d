package batch_test

import (
	"bytes"
	"slices"
	"testing"

	"bollard/api"
	"bollard/batch"
)

// TestDecodeOfEncode: what is written is read, whatever stands behind.
func TestDecodeOfEncode(t *testing.T) {
	x := dice(4)
	for range 2000 {
		b := x.batch()
		p, e := batch.Encode(b)
		if e != ok {
			t.Fatalf("P13.2: Encode(%+v) = %d", short(b), e)
		}
		decodes(t, "P13.5", p, b, len(p), ok)
		for _, tail := range tails() {
			decodes(t, "P13.5", slices.Concat(p, tail), b, len(p), ok)
		}
		decodes(t, "P13.5", slices.Concat(p, []byte(x.text(50))), b, len(p), ok)
		if t.Failed() {
			return
		}
	}
}

// TestRowOfBatches: batches one behind the other are read one after the other.
func TestRowOfBatches(t *testing.T) {
	x := dice(5)
	for range 50 {
		var l []api.Batch
		var p []byte
		for range x.below(9) {
			b := x.batch()
			one, _ := batch.Encode(b)
			l, p = append(l, b), append(p, one...)
		}
		for i, want := range l {
			b, n, e := batch.Decode(p)
			if !same(b, want) || e != ok {
				t.Fatalf("P13.5: the batch %d of a row = %+v %d, want %+v", i, short(b), e, short(want))
			}
			p = p[n:]
		}
		if len(p) != 0 {
			t.Fatalf("P13.5: %d bytes are left behind a row", len(p))
		}
	}
}

// TestChangedBehindSum: one changed byte behind the Sum is seen, wherever it is.
func TestChangedBehindSum(t *testing.T) {
	x := dice(6)
	for range 100 {
		p, _ := batch.Encode(x.batch())
		for i := 16; i < len(p); i++ {
			was := p[i]
			p[i] ^= byte(1 + x.below(255))
			decodes(t, "P13.5", p, api.Batch{}, 0, bad)
			p[i] = was
		}
		if t.Failed() {
			return
		}
	}
}

func TestDecodeOfMove(t *testing.T) {
	x := dice(7)
	for range 1000 {
		b := x.batch()
		p, _ := batch.Encode(b)
		b.Base = x.number()
		q, e := batch.Move(p, b.Base)
		if e != ok {
			t.Fatalf("P13.4: Move to %d = %d", b.Base, e)
		}
		decodes(t, "P13.5", q, b, len(p), ok)
		if again, _ := batch.Encode(b); !bytes.Equal(again, q) {
			t.Fatalf("P13.5: Move to %d is not what Encode tells of that batch", b.Base)
		}
	}
}

// spoil writes over b and its spare room.
func spoil(b []byte) {
	all := b[:cap(b)]
	for i := range all {
		all[i] ^= 0xff
	}
}

// spoilRecords does so with records.
func spoilRecords(l []api.Record) {
	all := l[:cap(l)]
	for i := range all {
		all[i] = api.Record{HasKey: true, Key: "spoilt", Time: 99, Off: 99}
	}
}

// guarded is l within a longer list, with what must stay as it is ahead of it and behind.
func guarded[T any](mark T, l []T) (part, all []T) {
	all = append(append([]T{mark, mark}, l...), mark, mark, mark)
	return all[2 : 2+len(l)], all
}

func TestBytesAreNotKept(t *testing.T) {
	for _, b := range []api.Batch{good(), sized(6000), places(1, 0)} {
		for _, cut := range []int{0, 1, 20} {
			p, all := guarded(9, laid(b)[:len(laid(b))-cut])
			was := slices.Clone(all)
			got, _, e := batch.Decode(p)
			moved, code := batch.Move(p, 77)
			_, refused := batch.Move(p, -1)
			if !bytes.Equal(all, was) {
				t.Fatalf("P13.6: Decode or Move changed what it was handed")
			}
			if cut > 0 {
				if e != bad || code != bad || refused != bad {
					t.Fatalf("P13.3: a batch that is cut off is %d %d %d", e, code, refused)
				}
				continue
			}
			spoil(all)
			if !same(got, b) {
				t.Errorf("P13.6: what Decode answered changes with its argument: %+v", short(got))
			}
			to := b
			to.Base = 77
			if !bytes.Equal(moved, laid(to)) {
				t.Errorf("P13.6: what Move answered changes with its argument")
			}
			spoil(all)
			spoil(moved)
			spoilRecords(got.Records)
			if !bytes.Equal(all, was) {
				t.Errorf("P13.6: what Decode and Move were handed changes with what they answered")
			}
			decodes(t, "P13.6", p, b, len(p), ok)
		}
	}
}

func TestMoveToTheSameIsNew(t *testing.T) {
	p := laid(good())
	q, _ := batch.Move(p, good().Base)
	spoil(q)
	if !bytes.Equal(p, laid(good())) {
		t.Errorf("P13.6: Move to the same Base answers its argument")
	}
}

func TestRecordsAreNotKept(t *testing.T) {
	mark := api.Record{HasKey: true, Key: "mark", Off: 50}
	for _, from := range []api.Batch{good(), sized(6000), places(1, 0), {Span: 100, Records: row(100)}} {
		l, all := guarded(mark, from.Records)
		was := slices.Clone(all)
		b := from
		b.Records = l
		code := batch.Check(b)
		p, _ := batch.Encode(b)
		fresh, e := batch.Fresh(7, 1, 2, l)
		batch.Fresh(-1, 1, 2, l)
		if !slices.Equal(all, was) {
			t.Fatalf("P13.6: a call changed the records it was handed: %+v", short(b))
		}
		if code != ok || e != ok {
			t.Fatalf("P13.1: Check and Fresh of %+v = %d %d", short(b), code, e)
		}
		want := api.Batch{Base: 7, Span: len(l), Producer: 1, Seq: 2}
		for i, r := range l {
			r.Off = i
			want.Records = append(want.Records, r)
		}
		spoilRecords(all)
		if !same(fresh, want) {
			t.Errorf("P13.6: what Fresh answered changes with its argument: %+v", short(fresh))
		}
		if !bytes.Equal(p, laid(from)) {
			t.Errorf("P13.6: what Encode answered changes with its argument")
		}
		copy(all, was)
		spoilRecords(fresh.Records)
		spoil(p)
		if !slices.Equal(all, was) {
			t.Errorf("P13.6: the records change with what was made of them")
		}
	}
}

// TestAnswersAreApart: two answers of the same call share nothing, and nothing hangs on an earlier call.
func TestAnswersAreApart(t *testing.T) {
	for range 3 {
		one, _ := batch.Encode(good())
		two, _ := batch.Encode(good())
		spoil(one)
		if !bytes.Equal(two, laid(good())) {
			t.Errorf("P13.6: two answers of Encode share memory")
		}
		a, _, _ := batch.Decode(two)
		b, _, _ := batch.Decode(two)
		spoilRecords(a.Records)
		if !same(b, good()) {
			t.Errorf("P13.6: two answers of Decode share memory: %+v", b)
		}
		l := row(4)
		c, _ := batch.Fresh(1, 2, 3, l)
		d, _ := batch.Fresh(1, 2, 3, l)
		spoilRecords(c.Records)
		if !same(d, api.Batch{Base: 1, Span: 4, Producer: 2, Seq: 3, Records: row(4)}) {
			t.Errorf("P13.6: two answers of Fresh share memory: %+v", d)
		}
		batch.Check(api.Batch{})
		batch.Decode(two[:50])
		batch.Move(nil, -1)
	}
}
