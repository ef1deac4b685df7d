package codec_test

import (
	"slices"
	"testing"

	"bollard/api"
	"bollard/codec"
)

// TestResponseBytes: the bytes of each Kind, written out.
func TestResponseBytes(t *testing.T) {
	one := api.Batch{Base: 7, Span: 1, Records: []api.Record{{HasVal: true, Val: "a"}}}
	bytes := "0000000000000007 00000029 cb2ce408 0000000000000000 0000000000000000 00000001 00000001 0000000000000000 02 00 00 01 61"
	for _, c := range []struct {
		r    api.Response
		want string
	}{
		{api.Response{Code: 13}, "00 00000000 0d"},
		{api.Response{Kind: 1, ID: 0x01020304}, "01 01020304 00"},
		{api.Response{Kind: 2, ID: 1<<32 - 1}, "02 ffffffff 00"},
		{api.Response{Kind: 3, ID: 1, Topics: []string{"a", "", "bcd"}, Parts: []int{1, -1}}, "03 00000001 00 0003 0001 61 0000 0003 626364 0002 0000000000000001 ffffffffffffffff"},
		{api.Response{Kind: 3}, "03 00000000 00 0000 0000"},
		{api.Response{Kind: 4, Offset: 1, Start: 2, Next: 3}, "04 00000000 00 0000000000000001 0000000000000002 0000000000000003"},
		{api.Response{Kind: 5, Start: 1, Next: 2}, "05 00000000 00 0000000000000001 0000000000000002 0000"},
		{api.Response{Kind: 5, Start: 1, Next: 8, Batches: []api.Batch{one, one}}, "05 00000000 00 0000000000000001 0000000000000008 0002" + bytes + bytes},
		{api.Response{Kind: 6, ID: 256, Offset: most, Start: least, Next: -1}, "06 00000100 00 7fffffffffffffff 8000000000000000 ffffffffffffffff"},
		{api.Response{Kind: 7, ID: 65536}, "07 00010000 00"},
		{api.Response{Kind: 8, ID: 1 << 24, Offset: 0x0102030405060708}, "08 01000000 00 0102030405060708"},
		{api.Response{Kind: 5, ID: 2, Code: 4}, "05 00000002 04"},
		{api.Response{Kind: 8, ID: 2, Code: 255}, "08 00000002 ff"},
	} {
		want := unhex(t, c.want)
		if b, e := codec.Response(c.r); string(b) != string(want) || e != ok {
			t.Errorf("P20.1: Response(%#v) = %x %d, want %x", c.r, b, e, want)
		}
		if r, e := codec.ParseResponse(want); !sameResponse(r, c.r) || e != ok {
			t.Errorf("P20.2: ParseResponse(%x) = %#v %d, want %#v", want, r, e, c.r)
		}
	}
}

func TestSomeResponses(t *testing.T) {
	for _, r := range someResponses() {
		answersOK(t, r)
	}
}

// TestResponseKinds: each Kind, and what is none, with Code 0 and with others.
func TestResponseKinds(t *testing.T) {
	kinds := append(edges(), 2, 3, 4, 5, 6, 7, 8, 9, 10, -2, -255, 257, 258, 264, 265, 1<<32+1, 1<<32+8)
	for _, kind := range kinds {
		for _, code := range []api.Errno{0, 1, 13, 255} {
			r := api.Response{Kind: kind, Code: code}
			if kind >= 1 && kind <= 8 || kind == 0 && code != 0 {
				answersOK(t, r)
			} else {
				answersNot(t, r)
			}
		}
	}
}

func TestResponseIDs(t *testing.T) {
	for _, r := range someResponses() {
		for _, id := range []int{0, 1, 255, 256, 65535, 65536, 1<<24 - 1, 1 << 24, 1<<31 - 1, 1 << 31, 1<<32 - 1} {
			r.ID = id
			answersOK(t, r)
		}
		for _, id := range []int{-1, -2, -1 << 31, -1 << 32, -1<<32 + 1, 1 << 32, 1<<32 + 1, 1 << 33, least, least + 1, most, most - 1} {
			r.ID = id
			answersNot(t, r)
		}
	}
}

// setters set each field of a response alone, which is not zero then; with the Kinds that name it.
func setters() []struct {
	kinds string
	set   func(*api.Response)
} {
	l := []struct {
		kinds string
		set   func(*api.Response)
	}{
		{"3", func(r *api.Response) { r.Topics = []string{"a"} }},
		{"3", func(r *api.Response) { r.Topics = []string{""} }},
		{"3", func(r *api.Response) { r.Parts = []int{1} }},
		{"3", func(r *api.Response) { r.Parts = []int{0} }},
		{"5", func(r *api.Response) { r.Batches = []api.Batch{bat(1, 1)} }},
	}
	for _, v := range edges() {
		if v != 0 {
			l = append(l, []struct {
				kinds string
				set   func(*api.Response)
			}{
				{"468", func(r *api.Response) { r.Offset = v }},
				{"456", func(r *api.Response) { r.Start = v }},
				{"456", func(r *api.Response) { r.Next = v }},
			}...)
		}
	}
	return l
}

// TestResponseFields: each field alone and beside others, where the Kind names it and where not; beside a Code that is not 0 there is none.
func TestResponseFields(t *testing.T) {
	for _, s := range setters() {
		for _, from := range someResponses() {
			for _, r := range []api.Response{from, {Kind: from.Kind}, {Kind: from.Kind, Code: 4}} {
				s.set(&r)
				if names(s.kinds, r.Kind) && r.Code == 0 {
					answersOK(t, r)
				} else {
					answersNot(t, r)
				}
			}
		}
	}
}

// TestCodes: from below 0 to above 255, with each Kind.
func TestCodes(t *testing.T) {
	for kind := -1; kind <= 9; kind++ {
		for code := range 256 {
			r := api.Response{Kind: kind, ID: code, Code: api.Errno(code)}
			if kind >= 1 && kind <= 8 || kind == 0 && code != 0 {
				answersOK(t, r)
			} else {
				answersNot(t, r)
			}
		}
		for _, code := range append(edges(), 257, 512, 269, -256, -243) {
			if code < 0 || code > 255 {
				answersNot(t, api.Response{Kind: kind, Code: api.Errno(code)})
			}
		}
	}
}

// TestEmptyLists: they are as none, wherever they stand.
func TestEmptyLists(t *testing.T) {
	for _, r := range someResponses() {
		r.Topics, r.Parts, r.Batches = append([]string{}, r.Topics...), append([]int{}, r.Parts...), append([]api.Batch{}, r.Batches...)
		answersOK(t, r)
	}
}

// TestNamesAndCounts: as many of one as of the other, and not.
func TestNamesAndCounts(t *testing.T) {
	sizes := []int{0, 1, 2, 20, 21, 255, 256, full - 1, full, full + 1, full + 2, 2*full + 2}
	for _, n := range sizes {
		topics := make([]string, n)
		for i := range topics {
			topics[i] = long(i % 5)
		}
		for _, m := range sizes {
			parts := make([]int, m)
			for i := range parts {
				parts[i] = i*i - 5
			}
			r := api.Response{Kind: 3, ID: n, Topics: topics, Parts: parts}
			if n <= full && m <= full {
				answersOK(t, r)
			} else {
				answersNot(t, r)
			}
		}
	}
}

// TestNames: texts of all lengths, ahead of, between and behind others.
func TestNames(t *testing.T) {
	rows := func(s string) [][]string {
		return [][]string{{s}, {s, "a", ""}, {"a", s, ""}, {"a", "", s}, {s, s}}
	}
	for _, s := range someTexts() {
		for _, l := range rows(s) {
			answersOK(t, api.Response{Kind: 3, Topics: l, Parts: []int{5}})
		}
	}
	for _, s := range longTexts() {
		for _, l := range rows(s) {
			answersNot(t, api.Response{Kind: 3, Topics: l, Parts: []int{5}})
		}
	}
	for _, v := range edges() {
		answersOK(t, api.Response{Kind: 3, Parts: []int{v, 1, v}})
	}
}

// TestBatches: small ones, great ones, those with all there is, none.
func TestBatches(t *testing.T) {
	many := api.Batch{Base: 1 << 50, Span: 100, Producer: most, Seq: most}
	for i := range 100 {
		r := rec("-", "-", i)
		if i%3 > 0 {
			r = rec(long(i%7), long(i%5), 1<<50-i)
		}
		r.Off = i
		many.Records = append(many.Records, r)
	}
	sizes := bat(0, 1)
	sizes.Records[0].Key, sizes.Records[0].Val = long(2000), long(2000)
	all := []api.Batch{bat(0, 1), bat(7, 2), bat(1<<50, 50), many, sizes, bigBatch(4300), bigBatch(5999), bigBatch(6000)}
	for i, b := range all {
		answersOK(t, api.Response{Kind: 5, Batches: []api.Batch{b}})
		answersOK(t, api.Response{Kind: 5, Start: i, Batches: all[:i]})
		answersOK(t, api.Response{Kind: 5, Next: i, Batches: all[i:]})
		answersOK(t, api.Response{Kind: 5, Batches: []api.Batch{b, b, b}})
	}
}

// TestHowManyBatches: up to as many as two bytes can say.
func TestHowManyBatches(t *testing.T) {
	for _, n := range []int{0, 1, 2, 255, 256, full - 1, full, full + 1, full + 2, 2*full + 2} {
		l := make([]api.Batch, n)
		for i := range l {
			l[i] = bat(i, 1+i%2)
		}
		r := api.Response{Kind: 5, Start: 1, Next: 2, Batches: l}
		if n <= full {
			answersOK(t, r)
		} else {
			answersNot(t, r)
		}
	}
}

// TestWrongBatches: one that 13 refuses, alone, ahead of, between and behind others; where no batch may stand it is no less wrong.
func TestWrongBatches(t *testing.T) {
	good := []api.Batch{bat(1, 1), bat(5, 2), bat(9, 3)}
	for _, b := range wrongBatches() {
		answersNot(t, api.Response{Kind: 5, Batches: []api.Batch{b}})
		for at := range len(good) + 1 {
			answersNot(t, api.Response{Kind: 5, Start: 1, Next: 9, Batches: slices.Insert(slices.Clone(good), at, b)})
		}
		answersNot(t, api.Response{Kind: 5, Batches: []api.Batch{b, b}})
		answersNot(t, api.Response{Kind: 4, Batches: []api.Batch{b}})
		answersNot(t, api.Response{Kind: 5, Code: 1, Batches: []api.Batch{b}})
	}
	last := make([]api.Batch, full)
	for i := range last {
		last[i] = good[0]
	}
	last[full-1] = api.Batch{}
	answersNot(t, api.Response{Kind: 5, Batches: last})
}
