package groups_test

import (
	"fmt"
	"slices"
	"strings"
	"testing"

	"bollard/api"
	"bollard/groups"
	"bollard/part"
)

// number is a number as the package lays it: groups of seven digits, the least first.
func number(v uint64) string {
	var b []byte
	for ; v >= 128; v >>= 7 {
		b = append(b, byte(v)|128)
	}
	return string(append(b, byte(v)))
}

// name is a record's key.
func name(topic, part uint64, group string) string {
	return number(topic) + number(part) + group
}

// rec is a record with a key and a value.
func rec(key, val string) api.Record {
	return api.Record{HasKey: true, Key: key, HasVal: true, Val: val, Time: 5}
}

// right is a record as the package lays it.
func right(x groups.Key, offset int) api.Record {
	return rec(name(uint64(x.Topic), uint64(x.Part), x.Group), number(uint64(offset)))
}

// wrong are records that are none of the package's.
func wrong() map[string]api.Record {
	l := map[string]api.Record{
		"neither key nor value":  {Time: 5},
		"an empty key alone":     {HasKey: true},
		"an empty value alone":   {HasVal: true},
		"empty ones":             {HasKey: true, HasVal: true},
		"a tombstone":            {HasKey: true, Key: name(1, 0, "g")},
		"no key":                 {HasVal: true, Val: number(5)},
		"an empty key":           rec("", number(5)),
		"an empty value":         rec(name(1, 0, "g"), ""),
		"a text for a key":       rec("k", number(5)),
		"texts":                  rec("k", "v"),
		"a topic alone":          rec(number(1), number(5)),
		"no group":               rec(name(1, 0, ""), number(5)),
		"no group, and noughts":  rec(name(1, 0, "\x00\x00"), number(5)),
		"a topic that goes on":   rec("\x81", number(5)),
		"a part that goes on":    rec("\x01\x80\x80", number(5)),
		"a long topic":           rec("\x81\x00\x00g", number(5)),
		"a long part":            rec("\x01\x80\x00g", number(5)),
		"an endless part":        rec("\x01"+strings.Repeat("\x80", 20), number(5)),
		"eleven bytes of topic":  rec(strings.Repeat("\x81", 10)+"\x01\x00g", number(5)),
		"a value that goes on":   rec(name(1, 0, "g"), "\x85"),
		"a long value":           rec(name(1, 0, "g"), "\x85\x00"),
		"two values":             rec(name(1, 0, "g"), number(5)+number(5)),
		"a nought behind":        rec(name(1, 0, "g"), number(5)+"\x00"),
		"a text for a value":     rec(name(1, 0, "g"), "offset"),
		"a value of 2000 bytes":  rec(name(1, 0, "g"), strings.Repeat("5", 2000)),
		"a key of 2000 bytes":    rec(name(1, 0, strings.Repeat("g", 1998)), number(5)),
		"noughts":                rec(strings.Repeat("\x00", 30), strings.Repeat("\x00", 8)),
		"ones":                   rec(strings.Repeat("\xff", 30), strings.Repeat("\xff", 8)),
		"key and value swapped":  rec(number(5), name(1, 0, "g")),
		"an offset of 64 digits": rec(name(1, 0, "g"), number(1<<64-1)),
		"a topic of 64 digits":   rec(name(1<<64-1, 0, "g"), number(5)),
		"a part of 64 digits":    rec(name(1, 1<<64-1, "g"), number(5)),
		"all of 64 digits":       rec(name(1<<64-1, 1<<64-1, "g"), number(1<<64-1)),
	}
	for _, s := range wrongGroups() {
		if len(s) < 1900 {
			l[fmt.Sprintf("the group %q", s)] = rec(name(1, 0, s), number(5))
		}
	}
	for _, n := range wrongTopics() {
		l[fmt.Sprint("the topic ", n)] = rec(name(uint64(n), 0, "g"), number(5))
	}
	for _, n := range wrongParts() {
		l[fmt.Sprint("the part ", n)] = rec(name(1, uint64(n), "g"), number(5))
	}
	for _, n := range wrongNumbers() {
		l[fmt.Sprint("the offset ", n)] = rec(name(1, 0, "g"), number(uint64(n)))
	}
	return l
}

// holds is a partition at /p to which each list was appended as a batch.
func (k *kit) holds(l ...[]api.Record) *part.Part {
	k.t.Helper()
	k.do(part.Make(k.f, "/p", set()))
	p := k.log("/p")
	for i, row := range l {
		if _, e := p.Append(i, 3*i, row); e != ok {
			k.t.Fatalf("P15.2: Append of %d records = %d", len(row), e)
		}
	}
	return p
}

// one is the list of each record.
func one(l ...api.Record) (out [][]api.Record) {
	for _, r := range l {
		out = append(out, []api.Record{r})
	}
	return out
}

// TestOpenWrong: a record that is none of this package's is refused wherever it stands, and all is as it was.
func TestOpenWrong(t *testing.T) {
	a, b, c := right(key("a", 1, 0), 5), right(key("b", 300, 7), 500), right(key("g", 1, 0), end)
	empty := made(t, 400, 40)
	var old []api.Record // two segments full of right ones
	for i := range 60 {
		old = append(old, right(nth(i), i))
	}
	for what, r := range wrong() {
		for where, l := range map[string][][]api.Record{
			"alone":                 one(r),
			"ahead":                 one(r, a, b, c),
			"between":               one(a, r, c),
			"behind":                one(a, b, c, r),
			"in a batch, the first": {{r, a, b, c}},
			"in a batch, the last":  {{a, b, c, r}},
			"in a batch, between":   {{a}, {b, r, c}, {a}},
			"behind segments":       one(append(slices.Clone(old), r)...),
			"ahead of segments":     one(append([]api.Record{r}, old...)...),
		} {
			if strings.Contains(where, "segments") && len(what)%3 > 0 { // some of them are enough there
				continue
			}
			k := empty.fork()
			k.holds(l...)
			k.still("P18.1", "Open of "+what+", "+where, func() {
				if g, e := groups.Open(k.f, "/p"); g != nil || e != bad {
					t.Fatalf("P18.1: Open of %s, %s = %v %d, want ErrBad", what, where, g, e)
				}
			})
		}
	}
}

// TestOpenRight: records of the package's form are known, whoever appended them, in batches or alone, and it goes on.
func TestOpenRight(t *testing.T) {
	var all []api.Record
	q := newPlain("/p")
	for i, x := range alike()[:90] {
		all = append(all, right(x, i), right(x, edges(0)[i%19]))
		q.commit(x, edges(0)[i%19], 5)
	}
	for _, l := range [][][]api.Record{one(all...), {all[:90], all[90:]}, {all[:1], all[1:4], all[4:100], all[100:101], all[101:]}} {
		k := made(t, 900, 60)
		k.holds(l...)
		k.again("P18.1", q)
		k.goesOn("P18.1", q.clone())
	}
}

// TestOpenIsOurs: what the test takes for the package's form is what Commit lays.
func TestOpenIsOurs(t *testing.T) {
	k := made(t, 900, 60)
	g, q := k.makes("/g")
	for i, x := range alike()[:60] {
		k.commits("P18.2", g, q, x, edges(0)[i%19], 5)
	}
	for i, b := range k.batches(g, q) {
		if want := right(q.all[i].key, q.all[i].offset); b.Records[0] != want {
			t.Errorf("the record of %v is %v, and the test's own is %v", q.all[i], b.Records[0], want)
		}
	}
}

// TestOpenMany: records of more keys than can be known are all of this package's; no further key is taken.
func TestOpenMany(t *testing.T) {
	var all []api.Record
	q := newPlain("/p")
	for i := range limit + 5 {
		all = append(all, right(nth(i), i))
		q.known[nth(i)] = i
	}
	k := made(t, 900, 60)
	k.holds(all[:100], all[100:200], all[200:])
	k.again("P18.1", q)
	g := k.opens("/p")
	k.refuses("P18.2", g, q, key("x", 1, 0), 5, 5, big)
	k.commits("P18.2", g, q, nth(limit), 5, 5)
	k.again("P18.2", q)
}

// TestOpenNoRecords: a partition without records, whatever settings it was made with, and a directory without a segment.
func TestOpenNoRecords(t *testing.T) {
	for _, s := range []api.Settings{set(), {Segment: 512, Bytes: -1, Age: -1}, {Segment: 8192, Bytes: 1 << 40, Age: end, Delay: end}} {
		k := made(t, 400, 40)
		k.do(part.Make(k.f, "/p", s))
		k.again("P18.1", newPlain("/p"))
		k.goesOn("P18.1", newPlain("/p"))
	}
	k := made(t, 400, 40)
	k.do(k.f.Mkdir("/p"))
	k.refused("/p", exist, bad)
	k.do(k.f.Create("/p/x"), k.f.Create("/p/0"), k.f.Create("/p/00000000000000000000.new"), k.f.Mkdir("/p/00000000000000000000"))
	k.refused("/p", exist, bad)
}

// TestOpenMends: what 15's Open removes and cuts off is gone behind Open, unless a record is refused: then all is there still, also within a transaction.
func TestOpenMends(t *testing.T) {
	k := made(t, 900, 60)
	_, q := k.knows(60)
	k.do(k.f.Create("/g/x.new"), k.f.Remove("/g/x.new")) // a directory does not become smaller
	was := show(k.f)
	tear := func() {
		k.do(k.f.Create("/g/x.new"), k.f.Append("/g/x.new", make([]byte, 3000)), k.f.Append("/g/00000000000000000000", []byte("torn")))
	}
	tear()
	k.is("P18.1", k.opens("/g"), q)
	if now := show(k.f); now != was {
		t.Fatalf("P18.1: behind Open there is\n%s\nwant\n%s", now, was)
	}
	_, e := k.log("/g").Append(0, 0, []api.Record{wrong()["a tombstone"]})
	k.do(e)
	tear()
	k.refused("/g", exist, bad)
	k.do(k.f.Begin(), k.f.Create("/within"))
	k.refused("/g", exist, bad)
	k.do(k.f.Commit())
	k.refused("/g", exist, bad)
	if s, e := k.f.Stat("/within"); s.Kind != 1 || e != ok {
		t.Errorf("P18.1: what was done ahead of an Open that is refused is %v %d", s, e)
	}
}

// TestOpenBusy: 15's error of a name that can't be removed comes ahead of a wrong record's.
func TestOpenBusy(t *testing.T) {
	k := made(t, 400, 40)
	k.holds(one(wrong()["texts"])...)
	k.do(k.f.Mkdir("/p/x.new"), k.f.Create("/p/x.new/y"))
	k.refused("/p", exist, busy)
	k.do(k.f.Remove("/p/x.new/y"))
	k.refused("/p", exist, bad)
}

// tries opens what may be wrong. Whatever is answered, no call panics; with an error all is as it was.
func (k *kit) tries(what string) *groups.Groups {
	k.t.Helper()
	was, ops := show(k.f), k.d.Ops()
	g, e := groups.Open(k.f, "/g")
	if e != ok {
		if g != nil || e != bad || show(k.f) != was || k.d.Ops() != ops {
			k.t.Fatalf("P18.1: Open of %s = %v %d", what, g, e)
		}
		return nil
	}
	n := g.Len()
	for i := range 5 {
		g.Find(nth(i))
	}
	if e := g.Commit(key("tries", 8, 7), 6, 5); e != ok {
		k.t.Fatalf("P18.2: of %s: Commit = %d", what, e)
	}
	if _, e := g.Compact(9); e != ok {
		k.t.Fatalf("P18.3: of %s: Compact = %d", what, e)
	}
	again := k.opens("/g")
	if offset, e := again.Find(key("tries", 8, 7)); offset != 6 || e != ok || again.Len() != n+1 || g.Len() != n+1 {
		k.t.Fatalf("P18.2: of %s: what was committed is %d %d, of %d and %d keys, want %d", what, offset, e, g.Len(), again.Len(), n+1)
	}
	return g
}

// TestOpenCut: a segment that is cut off at each byte: what its batches told that are whole is known.
func TestOpenCut(t *testing.T) {
	old := made(t, 400, 40)
	old.knows(5)
	s, _ := old.f.Stat("/g/00000000000000000000")
	for size := range s.Size + 1 {
		k := old.fork()
		k.do(k.f.Truncate("/g/00000000000000000000", size))
		g := k.tries(fmt.Sprint("a segment of ", size, " bytes"))
		if want := 1 + size/(s.Size/5); g.Len() > want || size == s.Size && g.Len() != 6 {
			t.Fatalf("P18.1: of a segment of %d bytes %d keys are known", size, g.Len()-1)
		}
	}
}

// TestOpenChanged: each byte of a segment, changed.
func TestOpenChanged(t *testing.T) {
	old := made(t, 400, 40)
	old.knows(4)
	b, _ := old.f.Read("/g/00000000000000000000", 0, most)
	for at := range b {
		for _, v := range []byte{b[at] ^ 1, b[at] ^ 128, 0, 255} {
			k := old.fork()
			k.do(k.f.Write("/g/00000000000000000000", at, []byte{v}))
			k.tries(fmt.Sprintf("a segment whose byte %d is %d", at, v))
		}
	}
}

// TestOpenAnyRecord: right records with each byte of key and value changed, cut out, or put in: known as another key or offset, or refused.
func TestOpenAnyRecord(t *testing.T) {
	empty := made(t, 400, 40)
	try := func(r api.Record) {
		t.Helper()
		k := empty.fork()
		k.do(part.Make(k.f, "/g", set()))
		_, e := k.log("/g").Append(0, 0, []api.Record{r})
		k.do(e)
		g := k.tries(fmt.Sprintf("the record %q %q", r.Key, r.Val))
		if g != nil && g.Len() != 2 {
			t.Fatalf("P18.1: of the record %q %q there are %d keys", r.Key, r.Val, g.Len()-1)
		}
	}
	for _, x := range []groups.Key{key("g", 1, 0), key("ab", end, 7)} {
		for _, offset := range []int{0, 300, end} {
			r := right(x, offset)
			for i := range r.Key {
				for _, s := range []string{"", "\x00", "\x01", "\x7f", "\x80", "\xff", "g/", string(r.Key[i]) + "\x00"} {
					try(rec(r.Key[:i]+s+r.Key[i+1:], r.Val))
				}
			}
			for i := range r.Val {
				for _, s := range []string{"", "\x00", "\x01", "\x7f", "\x80", "\xff", string(r.Val[i]) + "\x00"} {
					try(rec(r.Key, r.Val[:i]+s+r.Val[i+1:]))
				}
			}
		}
	}
	x := dice(11)
	for range 400 {
		var b [2][]byte
		for i := range b {
			for range x.below(12) {
				b[i] = append(b[i], []byte{0, 1, 2, 7, 8, 'g', '/', 127, 128, 129, 255}[x.below(11)])
			}
		}
		try(rec(string(b[0]), string(b[1])))
	}
}

// TestOpenOneKey: whatever two records Open takes, they are of one key just if their keys' bytes are the same.
func TestOpenOneKey(t *testing.T) {
	k := made(t, 900, 40)
	var texts []string
	for _, a := range []string{"\x01", "\x02", "\x81\x01", "\x81\x02", "\xff\x01", "\x81\x81\x01"} {
		for _, b := range []string{"\x00", "\x01", "\x07"} {
			for _, c := range []string{"g", "\x01", "\x01g", "\x02\x01", "\x81", "\x81\x01"} {
				texts = append(texts, a+b+c)
			}
		}
	}
	var l []api.Record
	for i, s := range texts {
		l = append(l, rec(s, number(uint64(i))))
	}
	k.holds(l[:50], l[50:100], l[100:])
	if g := k.opens("/p"); g.Len() != len(texts) {
		t.Errorf("P18.1: of %d keys %d are known", len(texts), g.Len())
	}
}

// TestOpenDead: on a file system whose device is off Open still tells what is known, and writes nothing.
func TestOpenDead(t *testing.T) {
	k := made(t, 400, 40)
	g, q := k.knows(30)
	k.d.Cut(0)
	k.fails(off, g.Commit(nth(0), 1, 1), g.Commit(key("new", 1, 0), 1, 1))
	k.still("P18.1", "Open", func() { k.is("P18.1", k.opens("/g"), q) })
	k.is("P18.2", g, q)
	k.refused("/q", off, none)
	k.refused("/", off, bad)
	k.refused("", off, arg)
}
