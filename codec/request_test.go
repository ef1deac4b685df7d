package codec_test

import (
	"encoding/hex"
	"fmt"
	"strings"
	"testing"

	"bollard/api"
	"bollard/codec"
)

// unhex is bytes of hexadecimal digits, with blanks between fields.
func unhex(t *testing.T, s string) []byte {
	t.Helper()
	b, err := hex.DecodeString(strings.ReplaceAll(s, " ", ""))
	if err != nil {
		t.Fatal(err)
	}
	return b
}

// TestRequestBytes: the bytes of each Kind, written out.
func TestRequestBytes(t *testing.T) {
	for _, c := range []struct {
		r    api.Request
		want string
	}{
		{api.Request{Kind: 2, ID: 7, Topic: "a"}, "02 00000007 0001 61"},
		{api.Request{Kind: 1, ID: 0x01020304, Topic: "ab", Parts: 3, Set: api.Settings{Segment: 512, Bytes: -1, Age: 0x0102030405060708, Compact: true, Delay: 60}},
			"01 01020304 0002 6162 0000000000000003 0000000000000200 ffffffffffffffff 0102030405060708 01 000000000000003c"},
		{api.Request{Kind: 1}, "01 00000000 0000 0000000000000000 0000000000000000 0000000000000000 0000000000000000 00 0000000000000000"},
		{api.Request{Kind: 3, ID: 1<<32 - 1}, "03 ffffffff"},
		{api.Request{Kind: 4, ID: 1, Topic: "t", Part: 2, Producer: 3, Seq: 4, Records: []api.Record{rec("k", "vw", 5), rec("-", "", -1), rec("xyz", "-", 256), rec("-", "-", least)}},
			"04 00000001 0001 74 0000000000000002 0000000000000003 0000000000000004 0004 03 0001 6b 0002 7677 0000000000000005 02 0000 ffffffffffffffff 01 0003 78797a 0000000000000100 00 8000000000000000"},
		{api.Request{Kind: 4}, "04 00000000 0000 0000000000000000 0000000000000000 0000000000000000 0000"},
		{api.Request{Kind: 5, ID: 256, Topic: "t", Part: 1, Offset: 2, Max: 3}, "05 00000100 0001 74 0000000000000001 0000000000000002 0000000000000003"},
		{api.Request{Kind: 6, ID: 65536, Topic: "t", Part: 1, Time: 2}, "06 00010000 0001 74 0000000000000001 0000000000000002"},
		{api.Request{Kind: 7, ID: 1 << 24, Group: "gh", Topic: "t", Part: 1, Offset: 2}, "07 01000000 0002 6768 0001 74 0000000000000001 0000000000000002"},
		{api.Request{Kind: 8, ID: 9, Group: "gh", Topic: "t", Part: most}, "08 00000009 0002 6768 0001 74 7fffffffffffffff"},
	} {
		want := unhex(t, c.want)
		if b, e := codec.Request(c.r); string(b) != string(want) || e != ok {
			t.Errorf("P20.1: Request(%#v) = %x %d, want %x", c.r, b, e, want)
		}
		if r, e := codec.ParseRequest(want); !sameRequest(r, c.r) || e != ok {
			t.Errorf("P20.2: ParseRequest(%x) = %#v %d, want %#v", want, r, e, c.r)
		}
	}
}

func TestSomeRequests(t *testing.T) {
	for _, r := range someRequests() {
		asksOK(t, r)
	}
}

// TestRequestKinds: each Kind, and what is none, with no field and with a Topic.
func TestRequestKinds(t *testing.T) {
	kinds := append(edges(), 2, 3, 4, 5, 6, 7, 8, 9, 10, -2, -255, 257, 258, 264, 265, 1<<32+1, 1<<32+8)
	for _, kind := range kinds {
		for _, topic := range []string{"", "a"} {
			r := api.Request{Kind: kind, Topic: topic}
			if kind >= 1 && kind <= 8 && (topic == "" || kind != 3) {
				asksOK(t, r)
			} else {
				asksNot(t, r)
			}
		}
	}
}

func TestRequestIDs(t *testing.T) {
	for _, r := range someRequests() {
		for _, id := range []int{0, 1, 255, 256, 65535, 65536, 1<<24 - 1, 1 << 24, 1<<31 - 1, 1 << 31, 1<<32 - 1} {
			r.ID = id
			asksOK(t, r)
		}
		for _, id := range []int{-1, -2, -1 << 31, -1 << 32, -1<<32 + 1, 1 << 32, 1<<32 + 1, 1 << 33, least, least + 1, most, most - 1} {
			r.ID = id
			asksNot(t, r)
		}
	}
}

// intField is a field that is an int, and the Kinds that name it.
type intField struct {
	name  string
	kinds string
	at    func(*api.Request) *int
}

func intFields() []intField {
	return []intField{
		{"Part", "45678", func(r *api.Request) *int { return &r.Part }},
		{"Parts", "1", func(r *api.Request) *int { return &r.Parts }},
		{"Set.Segment", "1", func(r *api.Request) *int { return &r.Set.Segment }},
		{"Set.Bytes", "1", func(r *api.Request) *int { return &r.Set.Bytes }},
		{"Set.Age", "1", func(r *api.Request) *int { return &r.Set.Age }},
		{"Set.Delay", "1", func(r *api.Request) *int { return &r.Set.Delay }},
		{"Producer", "4", func(r *api.Request) *int { return &r.Producer }},
		{"Seq", "4", func(r *api.Request) *int { return &r.Seq }},
		{"Offset", "57", func(r *api.Request) *int { return &r.Offset }},
		{"Max", "5", func(r *api.Request) *int { return &r.Max }},
		{"Time", "6", func(r *api.Request) *int { return &r.Time }},
	}
}

// names is whether a row of Kinds has this one.
func names(kinds string, kind int) bool {
	return strings.Contains(kinds, fmt.Sprint(kind))
}

// TestRequestInts: each int at its edges, alone and beside others, where its Kind names it and where not.
func TestRequestInts(t *testing.T) {
	for _, f := range intFields() {
		for _, from := range append(someRequests(), api.Request{Kind: 3}) {
			for _, v := range edges() {
				for _, r := range []api.Request{from, {Kind: from.Kind}} {
					*f.at(&r) = v
					if names(f.kinds, r.Kind) || v == 0 {
						asksOK(t, r)
					} else {
						asksNot(t, r)
					}
				}
			}
		}
	}
}

// TestRequestTexts: Topic and Group, of all lengths.
func TestRequestTexts(t *testing.T) {
	for _, f := range []struct {
		kinds string
		at    func(*api.Request) *string
	}{
		{"1245678", func(r *api.Request) *string { return &r.Topic }},
		{"78", func(r *api.Request) *string { return &r.Group }},
	} {
		for _, from := range someRequests() {
			for _, r := range []api.Request{from, {Kind: from.Kind}} {
				for _, s := range someTexts() {
					*f.at(&r) = s
					if names(f.kinds, r.Kind) || s == "" {
						asksOK(t, r)
					} else {
						asksNot(t, r)
					}
				}
				for _, s := range longTexts() {
					*f.at(&r) = s
					asksNot(t, r)
				}
			}
		}
	}
}

// TestBothTexts: how long one is says nothing of the other.
func TestBothTexts(t *testing.T) {
	for _, n := range []int{0, 1, 300, full} {
		for _, m := range []int{0, 1, 300, full} {
			asksOK(t, api.Request{Kind: 7, Group: long(n), Topic: long(m), Offset: 5})
			asksOK(t, api.Request{Kind: 8, Group: long(n), Topic: long(m), Part: 5})
		}
		asksNot(t, api.Request{Kind: 7, Group: long(n), Topic: long(full + 1)})
		asksNot(t, api.Request{Kind: 8, Group: long(full + 1), Topic: long(n)})
	}
}

// TestCompact: the flag both ways, beside each field of Set alone; other Kinds do not name it.
func TestCompact(t *testing.T) {
	for kind := range 10 {
		for _, compact := range []bool{false, true} {
			for _, set := range []api.Settings{{}, {Segment: 1}, {Bytes: 1}, {Age: 1}, {Delay: 1}, {Segment: -1, Bytes: -2, Age: -3, Delay: -4}} {
				set.Compact = compact
				r := api.Request{Kind: kind, Set: set}
				switch {
				case kind == 1, kind >= 1 && kind <= 8 && set == api.Settings{}:
					asksOK(t, r)
				default:
					asksNot(t, r)
				}
			}
		}
	}
}

// TestRecordsElsewhere: records that a Kind does not name; an empty list is none.
func TestRecordsElsewhere(t *testing.T) {
	for _, r := range someRequests() {
		r.Records = []api.Record{}
		asksOK(t, r)
		r.Records = make([]api.Record, 0, 5)
		asksOK(t, r)
		for _, n := range []int{1, 2, full, full + 1} {
			r.Records = make([]api.Record, n)
			if r.Kind == 4 && n <= full {
				asksOK(t, r)
			} else {
				asksNot(t, r)
			}
		}
	}
}

// TestHowManyRecords: from none to more than two bytes can say.
func TestHowManyRecords(t *testing.T) {
	for _, n := range []int{0, 1, 2, 99, 100, 101, 255, 256, 257, full - 1, full, full + 1, full + 2, 2*full + 2, 2*full + 3, 200000} {
		l := make([]api.Record, n)
		for i := range l {
			l[i] = rec(long(i%4), long(i%3), i)
			if i%5 == 0 {
				l[i] = rec("-", "-", -i)
			}
		}
		r := api.Request{Kind: 4, Topic: "t", Seq: 1, Records: l}
		if n <= full {
			asksOK(t, r)
		} else {
			asksNot(t, r)
		}
	}
}

// recordRows are rows that have this record ahead of, between and behind others, and alone.
func recordRows(r api.Record) [][]api.Record {
	a, b := rec("k", "v", 5), rec("-", "-", 6)
	return [][]api.Record{{r}, {r, a, b}, {a, r, b}, {a, b, r}, {r, r}}
}

func TestRecords(t *testing.T) {
	good := []api.Record{rec("-", "-", 0), rec("", "-", 0), rec("-", "", 0), rec("", "", 0), rec("a", "b", 0), rec("k", "-", 1), rec("-", "v", 1)}
	for _, s := range someTexts() {
		good = append(good, rec(s, "-", 1), rec("-", s, 2), rec(s, "x", 3), rec("x", s, 4), rec(s, s, 5))
	}
	for _, v := range edges() {
		good = append(good, rec("k", "v", v), rec("-", "-", v), rec("k", "-", v), rec("-", "v", v))
	}
	for _, r := range good {
		for _, l := range recordRows(r) {
			asksOK(t, api.Request{Kind: 4, Topic: "t", Records: l})
		}
	}
}

func TestWrongRecords(t *testing.T) {
	wrong := []api.Record{{Key: "a"}, {Val: "a"}, {Key: "a", HasVal: true}, {Val: "a", HasKey: true}, {Key: "a", Val: "b"}, {Key: "\x00"}, {Val: "\x00"}, {HasKey: true, Key: "a", Val: "b", Time: 1}, {HasVal: true, Key: "a", Val: "b", Time: 1}, {Key: long(full)}, {Val: long(full)}}
	for _, s := range longTexts() {
		wrong = append(wrong, rec(s, "-", 1), rec("-", s, 2), rec(s, "x", 3), rec("x", s, 4), rec(s, s, 5), api.Record{Key: s}, api.Record{Val: s})
	}
	for _, v := range edges() {
		if v != 0 {
			r := rec("k", "v", 1)
			r.Off = v
			wrong = append(wrong, r, api.Record{Off: v})
		}
	}
	for _, r := range wrong {
		for _, l := range recordRows(r) {
			asksNot(t, api.Request{Kind: 4, Topic: "t", Records: l})
		}
	}
}

// TestTwoWrongs: what is wrong in two ways is no less wrong.
func TestTwoWrongs(t *testing.T) {
	for _, r := range []api.Request{
		{Kind: 9, ID: -1},
		{Kind: 3, Topic: "a", Group: "b"},
		{Kind: 3, ID: 1 << 32, Topic: "a"},
		{Kind: 5, Offset: 1, Time: 1, Topic: long(full + 1)},
		{Kind: 4, Offset: 1, Records: []api.Record{{Off: 1}}},
		{Kind: 4, Topic: long(full + 1), Records: make([]api.Record, full+1)},
		{Kind: 1, Part: 1, Parts: 1},
		{Kind: 7, Offset: 1, Max: -1},
	} {
		asksNot(t, r)
	}
}
