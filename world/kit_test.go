package world_test

import (
	"bytes"
	"fmt"
	"maps"
	"math"
	"slices"
	"strings"
	"testing"

	"bollard/api"
	"bollard/fs"
	"bollard/world"
)

// Short names of errors and edges, for rows of calls.
const (
	ok       = api.OK
	arg      = api.ErrArg
	big      = api.ErrBig
	full     = api.ErrFull
	none     = api.ErrNone
	exist    = api.ErrExist
	off      = api.ErrOff
	gap      = api.ErrGap
	outside  = api.ErrRange
	text     = api.ErrText
	least    = math.MinInt
	most     = math.MaxInt
	end      = 1 << 50 // the greatest time and offset
	maxFrame = 8192
	maxConns = 16
)

// Kinds of steps.
const (
	retain  = 1
	compact = 2
	tidy    = 3
	sweep   = 4
)

// dice are numbers without a pattern, the same ones at each run.
type dice uint64

func (x *dice) below(n int) int {
	*x = *x*6364136223846793005 + 1442695040888963407
	return int(uint64(*x) >> 33 % uint64(n))
}

// pick is one of a list.
func pick[T any](x *dice, l ...T) T {
	return l[x.below(len(l))]
}

// Settings of topics: nothing goes, or what is behind a key goes, or what is too much.
func keeps() api.Settings { return api.Settings{Segment: 512, Bytes: -1, Age: -1} }
func thins() api.Settings {
	return api.Settings{Segment: 512, Bytes: -1, Age: -1, Compact: true, Delay: 5}
}
func sheds() api.Settings { return api.Settings{Segment: 600, Bytes: 1000, Age: 50} }

// Requests, each with an ID of its own.
func create(topic string, parts int, set api.Settings) api.Request {
	return api.Request{Kind: 1, ID: 11, Topic: topic, Parts: parts, Set: set}
}

func remove(topic string) api.Request { return api.Request{Kind: 2, ID: 12, Topic: topic} }

func topics() api.Request { return api.Request{Kind: 3, ID: 13} }

func add(topic string, part, producer, seq int, l ...api.Record) api.Request {
	return api.Request{Kind: 4, ID: 14, Topic: topic, Part: part, Producer: producer, Seq: seq, Records: l}
}

func fetch(topic string, part, offset, most int) api.Request {
	return api.Request{Kind: 5, ID: 15, Topic: topic, Part: part, Offset: offset, Max: most}
}

func list(topic string, part, time int) api.Request {
	return api.Request{Kind: 6, ID: 16, Topic: topic, Part: part, Time: time}
}

func commit(group, topic string, part, offset int) api.Request {
	return api.Request{Kind: 7, ID: 17, Group: group, Topic: topic, Part: part, Offset: offset}
}

func offset(group, topic string, part int) api.Request {
	return api.Request{Kind: 8, ID: 18, Group: group, Topic: topic, Part: part}
}

// Records.
func rec(key, val string, time int) api.Record {
	return api.Record{HasKey: true, Key: key, HasVal: true, Val: val, Time: time}
}

func tomb(key string, time int) api.Record { return api.Record{HasKey: true, Key: key, Time: time} }

func bare(val string, time int) api.Record { return api.Record{HasVal: true, Val: val, Time: time} }

func long(n int) string { return strings.Repeat("v", n) }

// every is a row of requests of all Kinds, some of which are refused.
func every() []api.Request {
	return []api.Request{
		topics(), create("b", 2, keeps()), create("b", 1, keeps()), add("b", 1, 0, 0, rec("k", "v", 3), bare("", 5)), add("b", 1, 7, 0, tomb("k", 8)), add("b", 1, 7, 0, tomb("k", 8)),
		add("b", 1, 7, 5, tomb("k", 8)), add("c", 0, 0, 0, bare("v", 1)), add("q", 0, 0, 0, bare("v", 1)), fetch("b", 1, 1, 1000), fetch("b", 1, 9, 1000), fetch("b", 0, 0, 1),
		list("b", 1, 4), list("q", 1, 4), commit("g", "b", 1, 77), commit("", "b", 1, 77), offset("g", "b", 1), offset("h", "b", 1), topics(), remove("a"), remove("a"), topics(),
	}
}

// kit is a world, and what it is held against: the layers, put together by hand, and a model of maps and lists.
type kit struct {
	t *testing.T
	w *world.World
	l *layers
	m *model
}

// made is a new world.
func made(t *testing.T, blocks, inodes int) *kit {
	t.Helper()
	w, e := world.New(blocks, inodes)
	l, code := newLayers(blocks, inodes)
	if w == nil || e != ok || code != ok {
		t.Fatalf("P23.1: New(%d, %d) = %v %d, want %d", blocks, inodes, w, e, code)
	}
	k := &kit{t, w, l, newModel()}
	k.level("P23.1", "New")
	return k
}

// level must be what is told without asking for anything.
func (k *kit) level(promise, what string) {
	k.t.Helper()
	blocks, inodes := k.w.Free()
	wantBlocks, wantInodes := k.l.f.Free()
	if blocks != wantBlocks || inodes != wantInodes {
		k.t.Fatalf("%s: behind %s Free() = %d %d, want %d %d", promise, what, blocks, inodes, wantBlocks, wantInodes)
	}
	if got, want := k.w.Ops(), k.l.d.Ops(); got != want {
		k.t.Fatalf("%s: behind %s Ops() = %d, want %d", promise, what, got, want)
	}
	if got := k.w.Now(); got != k.m.now {
		k.t.Fatalf("%s: behind %s Now() = %d, want %d", promise, what, got, k.m.now)
	}
}

// asks holds requests by Do against the layers and the model, and tells the last answer.
func (k *kit) asks(promise string, l ...api.Request) (told api.Response) {
	k.t.Helper()
	for _, r := range l {
		want := shown(k.m.q.do(r, k.m.now))
		layered := shown(k.l.b.Do(r, k.m.now))
		told = k.w.Do(r)
		if got := shown(told); got != want || got != layered {
			k.t.Fatalf("%s: Do(%s) at %d:\n got %.1500s\nwant %.1500s\n21's %.1500s", promise, short(r), k.m.now, got, want, layered)
		}
		k.level(promise, "Do")
	}
	return told
}

// steps holds a Step against the layers, and, but for Tidy, against the model.
func (k *kit) steps(promise string, kind int, topic string, part int) bool {
	k.t.Helper()
	layered, layeredCode := k.l.step(kind, topic, part, k.m.now)
	want, code := k.m.step(kind, topic, part)
	if kind == tidy {
		want, code = layered, layeredCode
	}
	got, e := k.w.Step(kind, topic, part)
	if got != want || e != code || got != layered || e != layeredCode {
		k.t.Fatalf("%s: Step(%d, %.60q, %d) at %d = %v %d, want %v %d, 21's is %v %d", promise, kind, topic, part, k.m.now, got, e, want, code, layered, layeredCode)
	}
	k.level(promise, "Step")
	return got
}

// ticks is Tick.
func (k *kit) ticks(promise string, l ...int) {
	k.t.Helper()
	for _, n := range l {
		k.w.Tick(n)
		k.m.tick(n)
		k.level(promise, fmt.Sprintf("Tick(%d)", n))
	}
}

// opens holds Open against the layers and the model.
func (k *kit) opens(promise string) int {
	k.t.Helper()
	want, code := k.m.open()
	layered, layeredCode := k.l.open()
	got, e := k.w.Open()
	if got != want || e != code || got != layered || e != layeredCode {
		k.t.Fatalf("%s: Open() = %d %d, want %d %d, 22's is %d %d", promise, got, e, want, code, layered, layeredCode)
	}
	k.level(promise, "Open")
	return got
}

// feeds holds Feed of pieces against the layers and the model, and tells all that was answered.
func (k *kit) feeds(promise string, conn int, pieces ...[]byte) (all []byte) {
	k.t.Helper()
	for _, p := range pieces {
		want, code := k.m.feed(conn, p)
		layered, layeredCode := k.l.feed(conn, p, k.m.now)
		got, e := k.w.Feed(conn, p)
		if !bytes.Equal(got, want) || e != code || !bytes.Equal(got, layered) || e != layeredCode {
			k.t.Fatalf("%s: Feed(%d, %s) at %d =\n %s %d, want\n %s %d, 22's is\n %s %d", promise, conn, brief(p), k.m.now, brief(got), e, brief(want), code, brief(layered), layeredCode)
		}
		k.level(promise, "Feed")
		all = append(all, got...)
	}
	return all
}

// cuts is Cut.
func (k *kit) cuts(n int) {
	k.t.Helper()
	k.w.Cut(n)
	k.l.d.Cut(n)
	k.level("P23.2", "Cut")
}

// crashes is Crash, which must be OK. The model's connections are gone by it.
func (k *kit) crashes(promise string, picks, cuts []int) {
	k.t.Helper()
	k.l.crash(k.t, picks, cuts)
	k.m.crash()
	if e := k.w.Crash(picks, cuts); e != ok {
		k.t.Fatalf("%s: Crash(%.200s, %v) = %d, want OK", promise, fmt.Sprint(picks), cuts[:min(50, len(cuts))], e)
	}
	k.level(promise, "Crash")
}

// brief is bytes, as far as a failure tells them.
func brief(b []byte) string {
	return fmt.Sprintf("%d:%.600x", len(b), b)
}

// short is a request, as far as a failure tells it.
func short(r api.Request) string {
	return fmt.Sprintf("%.300s", fmt.Sprint(r))
}

// shown is all that a response tells.
func shown(r api.Response) string {
	var text strings.Builder
	fmt.Fprintf(&text, "%d#%d %d %d %d %d %q %v", r.Kind, r.ID, r.Code, r.Offset, r.Start, r.Next, r.Topics, r.Parts)
	for _, b := range r.Batches {
		fmt.Fprintf(&text, "\n%d+%d p%d.%d", b.Base, b.Span, b.Producer, b.Seq)
		for _, r := range b.Records {
			fmt.Fprintf(&text, " {%v %q %v %q %d %d}", r.HasKey, r.Key, r.HasVal, r.Val, r.Time, r.Off)
		}
	}
	return text.String()
}

// looks are requests that only look, at all that the plain broker has and at what is around it.
func (q *plain) looks() []api.Request {
	l := []api.Request{topics()}
	for _, name := range slices.Sorted(maps.Keys(q.topics)) {
		for n, log := range q.topics[name].logs {
			l = append(l, fetch(name, n, log.start(), most), fetch(name, n, log.start()-1, 1), fetch(name, n, log.next()+1, 1), list(name, n, 0), list(name, n, end))
			for _, p := range slices.Sorted(maps.Keys(log.known)) { // its last batch comes again, and is not new
				l = append(l, add(name, n, p, log.known[p].seq, rec("again", "", 0)))
			}
		}
		for _, group := range []string{"g", "h", "i", "j", long(50), "nobody"} { // those that are not known, too
			for n := range q.topics[name].logs {
				l = append(l, offset(group, name, n))
			}
		}
	}
	return l
}

// is must be all that can be asked, and all that lies in files. Nothing of that changes anything.
func (k *kit) is(promise string) {
	k.t.Helper()
	ops := k.w.Ops()
	k.asks(promise, k.m.q.looks()...)
	if k.w.Ops() != ops {
		k.t.Fatalf("%s: what only looks wrote by %d ops", promise, k.w.Ops()-ops)
	}
	got, want := tree(k.w.Files(), "/"), tree(k.l.f, "/")
	for path, text := range want {
		if got[path] != text {
			k.t.Fatalf("%s: the file %s is\n %.500x, want\n %.500x", promise, path, got[path], text)
		}
	}
	if len(got) != len(want) {
		k.t.Fatalf("%s: there are %d files and directories, want %d", promise, len(got), len(want))
	}
}

// tree is what lies in each file below a path: the times at which offsets were committed are nowhere else.
func tree(f *fs.FS, path string) map[string]string {
	all := map[string]string{}
	l, e := f.List(path)
	if e != ok {
		b, _ := f.Read(path, 0, api.MaxFile)
		all[path] = string(b)
		return all
	}
	all[path] = "a directory"
	for _, name := range l {
		maps.Copy(all, tree(f, strings.TrimSuffix(path, "/")+"/"+name))
	}
	return all
}

// matches is whether the world tells what another plain broker tells.
func (k *kit) matches(q *plain) bool {
	for _, r := range q.looks() {
		if shown(k.w.Do(r)) != shown(q.do(r, 0)) {
			return false
		}
	}
	return true
}

// goesOn: a world is one like any other.
func (k *kit) goesOn(promise string) {
	k.t.Helper()
	n := k.opens(promise)
	k.ticks(promise, 3)
	k.asks(promise, create("goes on", 2, thins()), add("goes on", 1, 7, 0, rec("k", "v", 9), tomb("k", 10)), add("goes on", 1, 7, 0, rec("k", "v", 9)))
	k.feeds(promise, n, asked(commit("goes on", "goes on", 1, 5), offset("goes on", "goes on", 1), fetch("goes on", 1, 0, 1000)), framed(99, 99), []byte{0, 0}, []byte{0, 5, 3, 0, 0, 0, 2})
	for kind := range 6 {
		k.steps(promise, kind, "goes on", 1)
	}
	k.is(promise)
}

// stock is a world that has something of all that there may be, at the time 60, with two connections: topics of each kind of settings, several segments, producers, offsets to tidy, and what a deleted topic left.
func stock(t *testing.T) *kit {
	t.Helper()
	k := made(t, 900, 100)
	k.opens("P23.1")
	k.asks("P23.1", create("gone", 1, keeps()), create("a", 2, keeps()), create("c", 1, thins()), create("s", 1, sheds()))
	for i := range 4 {
		k.ticks("P23.1", 15)
		k.asks("P23.1",
			add("a", 0, 7, i, rec(fmt.Sprint("k", i%2), long(150), 10+i), bare(long(50), 9)),
			add("c", 0, 7, i, rec(fmt.Sprint("k", i%2), long(250), 10+i), tomb(fmt.Sprint("t", i%3), 20+i)),
			add("s", 0, 0, 0, rec("k", long(480), i)))
	}
	for i := range 40 { // so that there is something to tidy
		k.asks("P23.1", commit("g", "a", i%2, i))
	}
	k.asks("P23.1", remove("gone"))
	k.opens("P23.1")
	return k
}
