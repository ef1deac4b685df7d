package batch_test

import (
	"strings"
	"testing"

	"bollard/api"
	"bollard/batch"
)

func TestCheckNumbers(t *testing.T) {
	set := func(what func(b *api.Batch)) api.Batch {
		b := good()
		what(&b)
		return b
	}
	for _, x := range []struct {
		v    int
		want api.Errno
	}{{least, arg}, {least + 1, arg}, {-last, arg}, {-1, arg}, {0, ok}, {1, ok}, {1 << 32, ok}, {last - 1, ok}, {last, ok}, {last + 1, arg}, {1 << 62, arg}, {most, arg}} {
		checks(t, set(func(b *api.Batch) { b.Base = x.v }), x.want)
	}
	for _, x := range []struct {
		v    int
		want api.Errno
	}{{least, arg}, {-1, arg}, {0, ok}, {1, ok}, {last + 1, ok}, {1 << 62, ok}, {most, ok}} {
		checks(t, set(func(b *api.Batch) { b.Producer = x.v }), x.want)
		checks(t, set(func(b *api.Batch) { b.Seq = x.v }), x.want)
	}
	for _, x := range []struct {
		v    int
		want api.Errno
	}{{least, arg}, {-1, arg}, {0, arg}, {1, arg}, {3, arg}, {4, ok}, {5, ok}, {99, ok}, {100, ok}, {101, arg}, {128, arg}, {1 << 32, arg}, {1<<32 + 5, arg}, {most, arg}} {
		checks(t, set(func(b *api.Batch) { b.Span = x.v }), x.want)
	}
	for _, x := range []struct {
		v    int
		want api.Errno
	}{{least, arg}, {-1, arg}, {0, arg}, {1, ok}, {2, ok}, {100, ok}, {101, arg}, {most, arg}} {
		checks(t, places(x.v, 0), x.want)
	}
}

func TestCheckPlaces(t *testing.T) {
	for _, x := range []struct {
		b    api.Batch
		want api.Errno
	}{
		{places(1), arg},
		{places(100), arg},
		{places(1, 0), ok},
		{places(1, 1), arg},
		{places(2, 1), ok},
		{places(100, 99), ok},
		{places(100, 100), arg},
		{places(100, most), arg},
		{places(100, -1), arg},
		{places(100, least), arg},
		{places(100, -1, 0), arg},
		{places(100, least, least+1), arg},
		{places(3, 0, 1, 2), ok},
		{places(3, 0, 2), ok},
		{places(3, 1, 2), ok},
		{places(3, 0, 0), arg},
		{places(3, 0, 1, 1), arg},
		{places(3, 1, 0), arg},
		{places(3, 0, 2, 1), arg},
		{places(3, 2, 1, 0), arg},
		{places(3, 0, 1, 3), arg},
		{places(3, 0, 3), arg},
		{places(3, 0, -1), arg},
		{places(3, 0, least), arg},
		{places(3, 0, most), arg},
		{places(100, 0, 50, 98, 99), ok},
		{places(100, 0, 50, 99, 98), arg},
	} {
		checks(t, x.b, x.want)
	}
}

func TestCheckCounts(t *testing.T) {
	for n := range 105 {
		b := api.Batch{Base: 3, Span: 100, Records: row(n)}
		want := ok
		if n == 0 || n > 100 {
			want = arg
		}
		checks(t, b, want)
	}
	checks(t, api.Batch{Span: 100, Records: []api.Record{}}, arg)
	// Places that rise through one below 0 are no way to more than a hundred.
	b := api.Batch{Span: 100, Records: row(101)}
	for i := range b.Records {
		b.Records[i].Off = i - 1
	}
	checks(t, b, arg)
}

// TestCheckRecords: what chapter 12 says of a record, the first one's that has an error.
func TestCheckRecords(t *testing.T) {
	over := strings.Repeat("x", 2001)
	early := func(r *api.Record) { r.Time = -1 }
	late := func(r *api.Record) { r.Time = last + 1 }
	loose := func(r *api.Record) { r.HasVal = false }
	big := func(r *api.Record) { r.Val = over }
	bigKey := func(r *api.Record) { r.HasKey, r.Key = true, over }
	for _, x := range []struct {
		one, two func(r *api.Record)
		want     api.Errno
	}{
		{early, nil, arg}, {late, nil, arg}, {loose, nil, arg}, {big, nil, tooBig}, {bigKey, nil, tooBig},
		{nil, early, arg}, {nil, late, arg}, {nil, loose, arg}, {nil, big, tooBig}, {nil, bigKey, tooBig},
		{early, big, arg}, {late, bigKey, arg}, {loose, big, arg}, {early, late, arg},
		{big, early, tooBig}, {bigKey, late, tooBig}, {big, loose, tooBig}, {big, bigKey, tooBig},
	} {
		b := places(9, 1, 3, 5, 7)
		if x.one != nil {
			x.one(&b.Records[1])
		}
		if x.two != nil {
			x.two(&b.Records[3])
		}
		checks(t, b, x.want)
	}
	b := places(1, 0)
	b.Records[0].Time = last
	checks(t, b, ok)
}

// TestCheckOrder: the batch's own ErrArg is told ahead of a record's ErrBig, wherever each of them stands.
func TestCheckOrder(t *testing.T) {
	over := strings.Repeat("x", 2001)
	for i, set := range []func(b *api.Batch){
		func(b *api.Batch) { b.Base = -1 },
		func(b *api.Batch) { b.Base = last + 1 },
		func(b *api.Batch) { b.Span = 0 },
		func(b *api.Batch) { b.Span = 7 },
		func(b *api.Batch) { b.Span = 101 },
		func(b *api.Batch) { b.Producer = -1 },
		func(b *api.Batch) { b.Seq = -1 },
		func(b *api.Batch) { b.Records[3].Off = 9 },
		func(b *api.Batch) { b.Records[3].Off = 5 },
		func(b *api.Batch) { b.Records[3].Off = -1 },
		func(b *api.Batch) { b.Records[1].Off = 1 },
	} {
		for at := range 4 {
			b := places(9, 1, 3, 5, 7)
			b.Records[at].Val = over
			set(&b)
			if e := batch.Check(b); e != arg {
				t.Errorf("P13.1: Check of the batch %d with a record %d that is too big = %d", i, at, e)
			}
			checks(t, b, arg)
		}
	}
	// A batch of too many bytes: each record's own error is told ahead of that, and that it is too big behind all else.
	full := sized(6001)
	checks(t, full, tooBig)
	full.Records[1].Time = -1
	checks(t, full, arg)
	full = sized(6001)
	full.Records[1].Off = 3
	checks(t, full, arg)
	full = sized(6001)
	full.Seq = -1
	checks(t, full, arg)
	full = sized(6001)
	full.Records[0].Off = -1
	checks(t, full, arg)
}

func TestCheckBytes(t *testing.T) {
	for n := 5990; n <= 6010; n++ {
		b := sized(n)
		if len(laid(b)) != n {
			t.Fatalf("a batch of %d bytes has %d", n, len(laid(b)))
		}
		want := ok
		if n > 6000 {
			want = tooBig
		}
		checks(t, b, want)
	}
	b := api.Batch{Span: 100, Records: row(100)}
	for i := range b.Records {
		b.Records[i].Val = strings.Repeat("x", 2000)
	}
	checks(t, b, tooBig)
}

func TestExample(t *testing.T) {
	b, e := batch.Fresh(7, 0, 0, []api.Record{{HasVal: true, Val: "a"}})
	p, code := batch.Encode(b)
	if len(p) != 53 || e != ok || code != ok {
		t.Errorf("P13.2: the example has %d bytes, %d %d", len(p), e, code)
	}
	want := "\x00\x00\x00\x00\x00\x00\x00\x07\x00\x00\x00\x29" + "\x00\x00\x00\x00\x00\x00\x00\x00\x00\x00\x00\x00\x00\x00\x00\x00\x00\x00\x00\x01\x00\x00\x00\x01\x00\x00\x00\x00\x00\x00\x00\x00\x02\x00\x00\x01a"
	if len(p) == 53 && string(p[:12])+string(p[16:]) != want {
		t.Errorf("P13.2: the example's bytes are %x", p)
	}
}

// TestEncodeWords: each number where it belongs, told by its bytes.
func TestEncodeWords(t *testing.T) {
	b := api.Batch{Base: 0x0001020304050607, Span: 100, Producer: 0x1112131415161718, Seq: 0x2122232425262728, Records: []api.Record{
		val("v", 0x0003020100010203, 3), val("w", 0x0003020100010204, 5),
	}}
	p, e := batch.Encode(b)
	head := "\x00\x01\x02\x03\x04\x05\x06\x07" + "\x00\x00\x00\x2e"
	rest := "\x11\x12\x13\x14\x15\x16\x17\x18" + "\x21\x22\x23\x24\x25\x26\x27\x28" + "\x00\x00\x00\x64" + "\x00\x00\x00\x02" + "\x00\x03\x02\x01\x00\x01\x02\x03" + "\x02\x03\x00\x01v" + "\x02\x05\x02\x01w"
	if e != ok || len(p) != 58 || string(p[:12]) != head || string(p[16:]) != rest {
		t.Errorf("P13.2: Encode(%+v) = %x %d", b, p, e)
	}
}

func TestEncodeByDice(t *testing.T) {
	x := dice(1)
	for range 3000 {
		b := x.batch()
		if len(b.Records) == 0 || wrong(b) != ok {
			t.Fatalf("the dice made %+v", short(b))
		}
		checks(t, b, ok)
		if t.Failed() {
			return
		}
	}
}

// TestCheckByDice: batches of which one thing or more are wrong, held against the promise's words.
func TestCheckByDice(t *testing.T) {
	x := dice(2)
	some := []int{least, -last, -1, 0, 1, 2, 98, 99, 100, 101, last, last + 1, 1 << 62, most}
	pick := func() int { return some[x.below(len(some))] }
	told := make(map[api.Errno]int)
	for range 20000 {
		b := x.batch()
		for range 1 + x.below(3) {
			r := &b.Records[x.below(len(b.Records))]
			switch x.below(9) {
			case 0:
				b.Base = pick()
			case 1:
				b.Span = pick()
			case 2:
				b.Producer = pick()
			case 3:
				b.Seq = pick()
			case 4:
				r.Off = pick()
			case 5:
				r.Time = pick()
			case 6:
				r.HasKey = !r.HasKey
			case 7:
				r.HasVal, r.Val = true, strings.Repeat("v", 1998+x.below(5))
			case 8:
				r.HasKey, r.Key = true, strings.Repeat("k", 1998+x.below(5))
			}
		}
		want := wrong(b)
		told[want]++
		checks(t, b, want)
		if t.Failed() {
			return
		}
	}
	if told[ok] < 100 || told[arg] < 100 || told[tooBig] < 100 {
		t.Errorf("P13.1: the dice told too few of a kind: %v", told)
	}
}
