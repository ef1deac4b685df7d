package check_test

import (
	"fmt"
	"slices"
	"strings"
	"testing"

	"bollard/api"
)

// unlikeRecords are some of which any two are unlike in at least one of the five fields.
func unlikeRecords() []api.Record {
	return []api.Record{
		{}, {Time: 1}, {Time: -1}, {Time: most}, {Time: least}, {HasKey: true}, {HasVal: true}, {Key: "k"}, {Val: "k"}, {HasKey: true, HasVal: true}, {Key: "k", Val: "k"},
		{HasKey: true, Key: "k"}, {HasVal: true, Val: "k"}, {HasVal: true, Key: "k"}, {HasKey: true, Val: "k"}, {HasKey: true, Key: "k", Time: 1}, {HasKey: true, Key: "K"}, {HasKey: true, Key: "k "},
		rec("k", "v", 5), rec("v", "k", 5), rec("kv", "", 5), rec("", "kv", 5), rec("k", "v", 6), rec("k", "w", 5), rec("l", "v", 5), rec("k", "v\x00", 5), rec("k\x00", "v", 5), rec("k", "\xff", 5), rec("k", "\xfe", 5),
		rec("k", strings.Repeat("v", 2000), 5), rec("k", strings.Repeat("v", 2001), 5), rec("k", strings.Repeat("v", 1999)+"w", 5), rec(strings.Repeat("k", 70000), "v", 5),
	}
}

// TestOneField: records that are unlike in one of the five fields alone, either of them seen first.
func TestOneField(t *testing.T) {
	r := rec("k", "v", 5)
	for field, change := range map[string]func(*api.Record){
		"Key":    func(r *api.Record) { r.Key = "l" },
		"HasKey": func(r *api.Record) { r.HasKey = false },
		"Val":    func(r *api.Record) { r.Val = "" },
		"HasVal": func(r *api.Record) { r.HasVal = false },
		"Time":   func(r *api.Record) { r.Time++ },
	} {
		other := r
		change(&other)
		for _, pair := range [][2]api.Record{{r, other}, {other, r}} {
			k := known(t, told(0, 9, bat(4, 1, 0, 0, pair[0])))
			if got := k.sees("P24.1", told(0, 9, bat(4, 1, 0, 0, pair[1]))); got != 3 {
				t.Errorf("P24.1: of records unlike in %s alone Saw = %d, want 3", field, got)
			}
			k.saw("P24.1", 0, told(0, 9, bat(4, 1, 0, 0, pair[0])))
			k.saw("P24.1", 0, told(0, 9, bat(5, 1, 0, 0, pair[1])))
		}
	}
}

// TestUnlike: each record beside each other one.
func TestUnlike(t *testing.T) {
	l := unlikeRecords()
	for i, r := range l {
		k := known(t, told(0, 9, bat(4, 1, 0, 0, r)))
		for j, other := range l {
			want := 3
			if i == j {
				want = 0
			}
			k.saw("P24.1", want, told(0, 9, bat(4, 1, 0, 0, other)))
		}
	}
}

// TestOffAlone: one offset may be told by unlike Bases and Offs, and each record has its own.
func TestOffAlone(t *testing.T) {
	r, other := rec("k", "v", 5), rec("k", "w", 5)
	for base := range 9 {
		for _, off := range []int{8 - base, 7 - base, 9 - base} {
			k := known(t, told(0, 20, bat(8, 1, 0, 0, r)))
			one := func(r api.Record) fetch {
				return told(0, 20, api.Batch{Base: base, Span: 12, Records: []api.Record{placed(r, off)}})
			}
			want := 0
			if base+off == 8 {
				want = 3
			}
			k.saw("P24.1", want, one(other))
			k.saw("P24.1", 3-want, one(r))
			k.saw("P24.1", 0, told(0, 20, bat(8, 1, 0, 0, r)))
		}
	}
}

// TestWhatElseIsUnlike: the batch in which a record stands, its Span, Producer and Seq do not matter, nor does from.
func TestWhatElseIsUnlike(t *testing.T) {
	r := rec("k", "v", 5)
	k := known(t, told(0, 20, bat(8, 3, 7, 4, r)))
	for _, f := range []fetch{
		told(0, 20, bat(8, 3, 0, 0, r)), told(0, 20, bat(8, 1, 7, 4, r)), told(0, 20, bat(8, 12, 9, 4, r)), told(0, 20, bat(8, 3, 7, 5, r)), toldFrom(10, 0, 20, bat(8, 3, 7, 4, r)),
		told(0, 20, bat(8, 3, -7, 4, r)), told(0, 20, api.Batch{Base: 2, Span: 7, Records: []api.Record{placed(r, 6)}}), told(3, 25, bat(8, 3, 7, 4, r)), told(9, 25, bat(8, 3, 7, 4, r)),
	} {
		k.saw("P24.1", 0, f)
	}
	k.saw("P24.1", 3, told(9, 25, bat(8, 3, 7, 4, rec("k", "v", 6))))
}

// TestTwiceInOneFetch: records that stand at one offset twice, within a batch or in two of them.
func TestTwiceInOneFetch(t *testing.T) {
	l := unlikeRecords()
	for i, r := range l {
		for j, other := range l {
			want := 3
			if i == j {
				want = 0
			}
			within := api.Batch{Base: 4, Span: 5, Records: []api.Record{placed(r, 5), placed(other, 5)}}
			apart := api.Batch{Base: 4, Span: 5, Records: []api.Record{placed(r, 5), rec("x", "y", 1), placed(other, 5)}}
			early, late := api.Batch{Base: 2, Span: 2, Records: []api.Record{placed(r, 7)}}, bat(9, 1, 0, 0, other)
			for _, f := range []fetch{told(0, 20, within), told(0, 20, apart), told(0, 20, early, late), told(0, 20, early, at(5, 2, "v"), late)} {
				k := made(t)
				k.saw("P24.1", want, f)
				k.saw("P24.1", 0, told(0, 20, bat(9, 1, 0, 0, r)))
				k.saw("P24.1", want, told(0, 20, bat(9, 1, 0, 0, other)))
			}
		}
	}
}

// TestAmongOthers: one record of a row is unlike, whichever it is.
func TestAmongOthers(t *testing.T) {
	for n := range 30 {
		k := made(t)
		f := told(0, 40, row(10, 12)...)
		k.saw("P24.1", 0, f)
		g := told(0, 40, row(10, 12)...)
		g.batches[n/3].Records[n%3].Val = "another"
		k.saw("P24.1", 3, g)
		k.saw("P24.1", 0, f)
	}
}

// row is so many batches of three records each, of drawn producers' rising numbers.
func row(n, span int) (l []api.Batch) {
	for i := range n {
		l = append(l, bat(3*i, 3, i%3, i, rec("k", fmt.Sprint(i), i), rec("l", "", span), bare(fmt.Sprint(-i), 2*i)))
	}
	return l
}

// TestThinned: what was seen stays known, if what is told later leaves it out, begins above it, or ends below it.
func TestThinned(t *testing.T) {
	k := known(t, told(0, 40, row(10, 3)...))
	l := row(10, 3)
	for i := range l {
		l[i].Records = slices.Delete(l[i].Records, i%3, i%3+1)
	}
	k.saw("P24.1", 0, told(0, 40, l...))
	k.saw("P24.1", 0, told(10, 40, row(10, 3)[5:]...))
	k.saw("P24.1", 0, told(10, 40))
	k.saw("P24.1", 0, toldFrom(0, 10, 40, row(10, 3)[3:4]...)) // its first record is below Start
	other := row(10, 3)[3:4]
	other[0].Records[0].Val = "another"
	k.saw("P24.1", 3, toldFrom(0, 10, 40, other...))
	other = row(10, 3)[9:]
	other[0].Records[2].HasKey = true
	k.saw("P24.1", 3, told(10, 40, other...))
}
