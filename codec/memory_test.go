package codec_test

import (
	"bytes"
	"slices"
	"strings"
	"testing"

	"bollard/api"
	"bollard/codec"
)

// spoil writes over b and its spare room.
func spoil(b []byte) {
	all := b[:cap(b)]
	for i := range all {
		all[i] ^= 0xff
	}
}

// fill writes v over l and its spare room.
func fill[T any](l []T, v T) {
	all := l[:cap(l)]
	for i := range all {
		all[i] = v
	}
}

// guarded is l within a longer list, with what must stay as it is ahead of it and behind.
func guarded[T any](mark T, l []T) (part, all []T) {
	all = append(append([]T{mark, mark}, l...), mark, mark, mark)
	return all[2 : 2+len(l)], all
}

// spoilRecords writes over records and their spare room, and appends to them.
func spoilRecords(l []api.Record) {
	_ = append(l, api.Record{Key: "more"}, api.Record{Key: "more"})
	fill(l, api.Record{HasKey: true, Key: "spoilt", Time: 99, Off: 99})
}

// spoilResponse does so with all lists of a response.
func spoilResponse(r api.Response) {
	for _, b := range r.Batches {
		spoilRecords(b.Records)
	}
	_, _, _ = append(r.Topics, "more", "more"), append(r.Parts, 8, 8), append(r.Batches, api.Batch{Base: 8})
	fill(r.Topics, "spoilt")
	fill(r.Parts, 99)
	fill(r.Batches, api.Batch{Base: 99})
}

// copied is a response in memory of its own.
func copied(r api.Response) api.Response {
	r.Topics, r.Parts, r.Batches = slices.Clone(r.Topics), slices.Clone(r.Parts), slices.Clone(r.Batches)
	for i, b := range r.Batches {
		r.Batches[i].Records = slices.Clone(b.Records)
	}
	return r
}

// TestRequestKeepsNothing: records stay as they are, and their spare room; what was answered changes with nothing.
func TestRequestKeepsNothing(t *testing.T) {
	mark := api.Record{HasKey: true, Key: "mark", Off: 50}
	wrong := api.Request{Kind: 4, Records: []api.Record{rec("k", "v", 1), {Off: 1}, rec("k", "v", 2)}}
	for _, from := range append(someRequests(), wrong, api.Request{Kind: 5, Records: wrong.Records}, api.Request{Kind: 9, Records: wrong.Records}) {
		l, all := guarded(mark, from.Records)
		was := slices.Clone(all)
		r := from
		r.Records = l
		one, e := codec.Request(r)
		two, _ := codec.Request(r)
		if !slices.Equal(all, was) {
			t.Fatalf("P20.3: Request changed its records: %#v", all)
		}
		spoil(one)
		_ = append(one, 1, 2, 3)
		if !slices.Equal(all, was) {
			t.Fatalf("P20.3: records change with what Request answered: %#v", all)
		}
		spoilRecords(all)
		if e == ok && !bytes.Equal(two, laidRequest(from)) {
			t.Errorf("P20.3: what Request answered changes: %.80x, want %.80x", two, laidRequest(from))
		}
	}
}

// guardedResponse is a response whose lists all lie within longer ones, which whole answers.
func guardedResponse(from api.Response) (r api.Response, whole api.Response) {
	from = copied(from)
	mark := api.Record{HasKey: true, Key: "mark", Off: 50}
	var lists []api.Batch
	for i, b := range from.Batches {
		part, all := guarded(mark, b.Records)
		from.Batches[i].Records = part
		lists = append(lists, api.Batch{Records: all})
	}
	r = from
	r.Topics, whole.Topics = guarded("mark", from.Topics)
	r.Parts, whole.Parts = guarded(77, from.Parts)
	r.Batches, whole.Batches = guarded(api.Batch{Base: 77}, from.Batches)
	whole.Batches = append(whole.Batches, lists...)
	return r, whole
}

// TestResponseKeepsNothing: so do names, counts, batches and their records.
func TestResponseKeepsNothing(t *testing.T) {
	wrong := api.Response{Kind: 5, Batches: []api.Batch{bat(1, 2), {}, bat(5, 2)}}
	for _, from := range append(someResponses(), wrong, api.Response{Kind: 8, Topics: []string{"a"}, Parts: []int{1}}, api.Response{Kind: 5, Code: 3, Batches: wrong.Batches}) {
		r, whole := guardedResponse(from)
		was := copied(whole)
		one, e := codec.Response(r)
		two, _ := codec.Response(r)
		if !sameResponse(whole, was) {
			t.Fatalf("P20.3: Response changed what it was handed: %#v, want %#v", whole, was)
		}
		spoil(one)
		_ = append(one, 1, 2, 3)
		if !sameResponse(whole, was) {
			t.Fatalf("P20.3: what Response was handed changes with what it answered: %#v, want %#v", whole, was)
		}
		spoilResponse(r)
		spoilResponse(whole)
		if e == ok && !bytes.Equal(two, laidResponse(from)) {
			t.Errorf("P20.3: what Response answered changes: %.80x, want %.80x", two, laidResponse(from))
		}
	}
}

// TestParseRequestKeepsNothing: bytes stay as they are, and their spare room; what was answered changes with nothing.
func TestParseRequestKeepsNothing(t *testing.T) {
	for _, r := range append(someRequests(), api.Request{Kind: 7, Group: strings.Repeat("g", 100), Topic: strings.Repeat("t", 3000)}) {
		for _, cut := range []int{0, 1, 9} {
			laid := laidRequest(r)
			b, all := guarded(7, laid[:max(0, len(laid)-cut)])
			was := slices.Clone(all)
			one, e := codec.ParseRequest(b)
			two, _ := codec.ParseRequest(b)
			if !bytes.Equal(all, was) {
				t.Fatalf("P20.3: ParseRequest changed its bytes: %x, want %x", all, was)
			}
			spoilRecords(one.Records)
			if !bytes.Equal(all, was) {
				t.Fatalf("P20.3: bytes change with what ParseRequest answered: %x, want %x", all, was)
			}
			spoil(all)
			if cut == 0 && (e != ok || !sameRequest(two, r)) {
				t.Errorf("P20.3: what ParseRequest answered changes: %#v, want %#v", two, r)
			}
		}
	}
}

// TestParseResponseKeepsNothing: likewise.
func TestParseResponseKeepsNothing(t *testing.T) {
	for _, r := range append(someResponses(), api.Response{Kind: 3, Topics: []string{long(3000), "b", long(100)}, Parts: make([]int, 70)}) {
		for _, cut := range []int{0, 1, 9} {
			laid := laidResponse(r)
			b, all := guarded(7, laid[:max(0, len(laid)-cut)])
			was := slices.Clone(all)
			one, e := codec.ParseResponse(b)
			two, _ := codec.ParseResponse(b)
			if !bytes.Equal(all, was) {
				t.Fatalf("P20.3: ParseResponse changed its bytes: %x, want %x", all, was)
			}
			spoilResponse(one)
			if !bytes.Equal(all, was) {
				t.Fatalf("P20.3: bytes change with what ParseResponse answered: %x, want %x", all, was)
			}
			spoil(all)
			if cut == 0 && (e != ok || !sameResponse(two, r)) {
				t.Errorf("P20.3: what ParseResponse answered changes: %#v, want %#v", two, r)
			}
		}
	}
}

// TestListsApart: the lists of one answer share no memory: each is overwritten and appended to, and the others stay.
func TestListsApart(t *testing.T) {
	batches := api.Response{Kind: 5, Batches: []api.Batch{bat(1, 1), bat(3, 3), bat(9, 2), bat(20, 5)}}
	for i := range batches.Batches {
		r, _ := codec.ParseResponse(laidResponse(batches))
		spoilRecords(r.Batches[i].Records)
		for j, b := range r.Batches {
			if j != i && !sameBatch(b, batches.Batches[j]) {
				t.Errorf("P20.3: the batch %d changes with the batch %d: %#v", j, i, b)
			}
		}
	}
	lists := api.Response{Kind: 3, Topics: []string{"a", "b", "c"}, Parts: []int{1, 2, 3}}
	r, _ := codec.ParseResponse(laidResponse(lists))
	_ = append(r.Topics, "x", "y")
	fill(r.Topics, "z")
	if !slices.Equal(r.Parts, lists.Parts) {
		t.Errorf("P20.3: Parts change with Topics: %v", r.Parts)
	}
}

// TestAnswersApart: what two calls answer shares nothing.
func TestAnswersApart(t *testing.T) {
	for _, r := range someRequests() {
		b := laidRequest(r)
		one, _ := codec.ParseRequest(b)
		two, _ := codec.ParseRequest(b)
		spoilRecords(one.Records)
		if !sameRequest(two, r) {
			t.Errorf("P20.3: two answers of ParseRequest share memory: %#v", two)
		}
		p, _ := codec.Request(r)
		q, _ := codec.Request(r)
		spoil(p)
		if !bytes.Equal(q, b) {
			t.Errorf("P20.3: two answers of Request share memory: %x", q)
		}
	}
	for _, r := range someResponses() {
		b := laidResponse(r)
		one, _ := codec.ParseResponse(b)
		two, _ := codec.ParseResponse(b)
		spoilResponse(one)
		if !sameResponse(two, r) {
			t.Errorf("P20.3: two answers of ParseResponse share memory: %#v", two)
		}
		p, _ := codec.Response(r)
		q, _ := codec.Response(r)
		spoil(p)
		if !bytes.Equal(q, b) {
			t.Errorf("P20.3: two answers of Response share memory: %x", q)
		}
	}
}
