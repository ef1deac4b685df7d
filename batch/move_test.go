package batch_test

import (
	"bytes"
	"hash/crc32"
	"slices"
	"strings"
	"testing"

	"bollard/api"
	"bollard/batch"
)

// sum is the library's.
func sum(b []byte) uint32 {
	return crc32.Checksum(b, crc32.MakeTable(crc32.Castagnoli))
}

// moves must be what Move answers.
func moves(t *testing.T, p []byte, base int, want []byte, code api.Errno) {
	t.Helper()
	if q, e := batch.Move(p, base); !bytes.Equal(q, want) || e != code {
		t.Errorf("P13.4: Move(%.80x (%d bytes), %d) = %.80x %d, want %.80x %d", p, len(p), base, q, e, want, code)
	}
}

func TestMove(t *testing.T) {
	for _, b := range []api.Batch{good(), places(1, 0), sized(6000), {Base: last, Span: 100, Producer: most, Seq: most, Records: row(100)}} {
		for _, base := range []int{0, 1, b.Base, 255, 256, 1 << 32, last - 1, last} {
			to := b
			to.Base = base
			moves(t, laid(b), base, laid(to), ok)
		}
		for _, base := range []int{least, -last, -1, last + 1, 1 << 62, most} {
			moves(t, laid(b), base, nil, arg)
		}
	}
}

// TestMoveNoBatch: bytes that are not just one batch are ErrBad, ahead of a Base that may not be.
func TestMoveNoBatch(t *testing.T) {
	p := laid(good())
	early := partsOf(good())
	early.base = 1 << 63
	changed := slices.Clone(p)
	changed[len(p)-1]++
	rows := [][]byte{nil, {}, make([]byte, 48), make([]byte, 7000), append(slices.Clone(p), 0), slices.Concat(p, p), p[1:], changed, early.bytes(), laid(sized(6001))}
	for n := range p {
		rows = append(rows, p[:n])
	}
	for _, row := range rows {
		for _, base := range []int{0, 7, last, -1, last + 1, least, most} {
			moves(t, row, base, nil, bad)
		}
	}
}

// freshes holds Fresh against the promise's words.
func freshes(t *testing.T, base, producer, seq int, l []api.Record) api.Errno {
	t.Helper()
	want := api.Batch{Base: base, Span: len(l), Producer: producer, Seq: seq}
	if len(l) == 0 {
		want.Span = 1
	}
	for i, r := range l {
		r.Off = i
		want.Records = append(want.Records, r)
	}
	code := wrong(want)
	if code != ok {
		want = api.Batch{}
	}
	if b, e := batch.Fresh(base, producer, seq, l); !same(b, want) || e != code {
		t.Errorf("P13.4: Fresh(%d, %d, %d, %d records) = %+v %d, want %+v %d", base, producer, seq, len(l), short(b), e, short(want), code)
	}
	return code
}

func TestFresh(t *testing.T) {
	for n := range 105 {
		want := ok
		if n == 0 || n > 100 {
			want = arg
		}
		if e := freshes(t, 3, 4, 5, row(n)); e != want {
			t.Errorf("the test's own word of %d records is %d", n, e)
		}
	}
	freshes(t, 0, 0, 0, nil)
	freshes(t, 0, 0, 0, []api.Record{})
	freshes(t, 0, 0, 0, make([]api.Record, 5000))
	for _, v := range []int{least, -1, 0, 1, last, last + 1, 1 << 62, most} {
		freshes(t, v, 0, 0, row(2))
		freshes(t, 0, v, 0, row(2))
		freshes(t, 0, 0, v, row(2))
		freshes(t, v, 0, 0, nil)
	}
}

// TestFreshPlaces: what the records' Offs say is not looked at.
func TestFreshPlaces(t *testing.T) {
	for _, offs := range [][]int{{0, 0, 0}, {5, 4, 3}, {100, 200, 300}, {-1, -2, -3}, {least, most, 0}, {2, 1, 0}} {
		l := row(3)
		for i := range l {
			l[i].Off = offs[i]
		}
		if e := freshes(t, 9, 8, 7, l); e != ok {
			t.Errorf("the test's own word of the places %v is %d", offs, e)
		}
	}
}

func TestFreshRecords(t *testing.T) {
	over := strings.Repeat("x", 2001)
	for _, x := range []struct {
		l    []api.Record
		want api.Errno
	}{
		{[]api.Record{val("a", 0, 0), val("b", -1, 0)}, arg},
		{[]api.Record{val("a", 0, 0), val("b", last+1, 0)}, arg},
		{[]api.Record{val("a", 0, 0), {Val: "b"}}, arg},
		{[]api.Record{val("a", 0, 0), {Key: "b"}}, arg},
		{[]api.Record{val("a", 0, 0), val(over, 0, 0)}, tooBig},
		{[]api.Record{val(over, 0, 0), val("b", -1, 0)}, tooBig},
		{[]api.Record{val("b", -1, 0), val(over, 0, 0)}, arg},
		{[]api.Record{val(over[1:], 0, 0), val(over[1:], 0, 0), val(over[1:], 0, 0)}, tooBig},
		{[]api.Record{val(over[1:], 0, 0), val(over[1:], 0, 0)}, ok},
		{sized(6000).Records, ok},
		{sized(6001).Records, tooBig},
	} {
		if e := freshes(t, 1, 2, 3, x.l); e != x.want {
			t.Errorf("the test's own word of %+v is %d", short(api.Batch{Records: x.l}), e)
		}
		if e := freshes(t, -1, 2, 3, x.l); e != arg {
			t.Errorf("the test's own word of a Base below 0 is %d", e)
		}
	}
}
