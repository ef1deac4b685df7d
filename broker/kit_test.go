package broker_test

import (
	"fmt"
	"maps"
	"math"
	"reflect"
	"slices"
	"strings"
	"testing"

	"bollard/api"
	"bollard/broker"
	"bollard/device"
	"bollard/fs"
	"bollard/groups"
)

// Short names of errors and edges, for rows of calls.
const (
	ok      = api.OK
	arg     = api.ErrArg
	big     = api.ErrBig
	full    = api.ErrFull
	none    = api.ErrNone
	exist   = api.ErrExist
	kind    = api.ErrKind
	off     = api.ErrOff
	bad     = api.ErrBad
	gap     = api.ErrGap
	outside = api.ErrRange
	least   = math.MinInt
	most    = math.MaxInt
	end     = 1 << 50 // the greatest time and offset
)

// dice are numbers without a pattern, the same ones at each run.
type dice uint64

func (x *dice) below(n int) int {
	*x = *x*6364136223846793005 + 1442695040888963407
	return int(uint64(*x) >> 33 % uint64(n))
}

// Settings of topics: nothing goes, or what is behind a key goes, or what is too much.
func keeps() api.Settings { return api.Settings{Segment: 512, Bytes: -1, Age: -1} }
func thins() api.Settings {
	return api.Settings{Segment: 512, Bytes: -1, Age: -1, Compact: true, Delay: 5}
}
func sheds() api.Settings { return api.Settings{Segment: 600, Bytes: 1000, Age: 50} }

// Requests, each with an ID of its own.
func create(topic string, parts int, set api.Settings) api.Request {
	return api.Request{Kind: 1, ID: 11, Topic: topic, Parts: parts, Set: set}
}

func remove(topic string) api.Request { return api.Request{Kind: 2, ID: 12, Topic: topic} }

func topics() api.Request { return api.Request{Kind: 3, ID: 13} }

func add(topic string, part, producer, seq int, l ...api.Record) api.Request {
	return api.Request{Kind: 4, ID: 14, Topic: topic, Part: part, Producer: producer, Seq: seq, Records: l}
}

func fetch(topic string, part, offset, most int) api.Request {
	return api.Request{Kind: 5, ID: 15, Topic: topic, Part: part, Offset: offset, Max: most}
}

func list(topic string, part, time int) api.Request {
	return api.Request{Kind: 6, ID: 16, Topic: topic, Part: part, Time: time}
}

func commit(group, topic string, part, offset int) api.Request {
	return api.Request{Kind: 7, ID: 17, Group: group, Topic: topic, Part: part, Offset: offset}
}

func offset(group, topic string, part int) api.Request {
	return api.Request{Kind: 8, ID: 18, Group: group, Topic: topic, Part: part}
}

// Records.
func rec(key, val string, time int) api.Record {
	return api.Record{HasKey: true, Key: key, HasVal: true, Val: val, Time: time}
}

func tomb(key string, time int) api.Record { return api.Record{HasKey: true, Key: key, Time: time} }

func bare(val string, time int) api.Record { return api.Record{HasVal: true, Val: val, Time: time} }

func long(n int) string { return strings.Repeat("v", n) }

// sized are records that make a batch of just so many bytes, at least 200.
func sized(n int) []api.Record {
	var l []api.Record
	for left := n - 48; left > 0; {
		size := min(left, 1900)
		if left > size && left-size < 200 {
			size -= 200
		}
		r := rec("k", "", 3)
		r.Val = long(size - 7) // a byte each of marks, Off, time and key's length, the key, two of the value's length
		l = append(l, r)
		left -= size
	}
	if b, e := fresh(0, 0, 0, l); e == ok && bytesOf(b) != n {
		panic(fmt.Sprint("the test's own batch has ", bytesOf(b), " bytes, not ", n))
	}
	return l
}

// kit is a broker, what stands under it, and the plain one that it is held against.
type kit struct {
	t *testing.T
	d *device.Device
	f *fs.FS
	b *broker.Broker
	q *plain
}

// empty is a new file system without a broker.
func empty(t *testing.T, blocks, inodes int) *kit {
	t.Helper()
	d, e := device.New(blocks)
	if e != ok {
		t.Fatalf("device.New(%d) = %d", blocks, e)
	}
	if e := fs.Mkfs(d, inodes); e != ok {
		t.Fatalf("P10.1: Mkfs of %d blocks and %d inodes = %d", blocks, inodes, e)
	}
	return mounted(t, d, newPlain())
}

// mounted is the file system that a device has.
func mounted(t *testing.T, d *device.Device, q *plain) *kit {
	t.Helper()
	f, e := fs.Mount(d)
	if e != ok {
		t.Fatalf("P10.1: Mount = %d", e)
	}
	return &kit{t: t, d: d, f: f, q: q}
}

// made is a new broker.
func made(t *testing.T, blocks, inodes int) *kit {
	t.Helper()
	k := empty(t, blocks, inodes)
	if e := broker.Format(k.f); e != ok {
		t.Fatalf("P21.1: Format = %d", e)
	}
	k.opens()
	return k
}

// opens opens the broker that is there.
func (k *kit) opens() {
	k.t.Helper()
	b, e := broker.Open(k.f)
	if e != ok || b == nil {
		k.t.Fatalf("P21.1: Open = %v %d", b, e)
	}
	k.b = b
}

// remount mounts what a crash leaves that takes all that is pending, and opens the broker.
func (k *kit) remount() {
	k.t.Helper()
	*k = *mounted(k.t, k.d.Crash(nil), k.q)
	k.opens()
}

// fork is a broker of its own with the same in it.
func (k *kit) fork() *kit {
	k.t.Helper()
	fork := mounted(k.t, k.d.Crash(nil), k.q.clone())
	fork.opens()
	return fork
}

// do are calls of the file system that must be OK.
func (k *kit) do(l ...api.Errno) {
	k.t.Helper()
	for i, e := range l {
		if e != ok {
			k.t.Fatalf("call %d of a row = %d, want 0", i, e)
		}
	}
}

// asks holds requests against the plain broker, and tells the last answer.
func (k *kit) asks(promise string, now int, l ...api.Request) (told api.Response) {
	k.t.Helper()
	for _, r := range l {
		want := shown(k.q.do(r, now))
		told = k.b.Do(r, now)
		if got := shown(told); got != want {
			k.t.Fatalf("%s: Do(%s, %d):\n got %.2000s\nwant %.2000s", promise, short(r), now, got, want)
		}
	}
	return told
}

// answers are requests whose Code must be that one; other than 0, nothing changes.
func (k *kit) answers(promise string, want api.Errno, now int, l ...api.Request) {
	k.t.Helper()
	ask := func() {
		k.t.Helper()
		for _, r := range l {
			if told := k.asks(promise, now, r); told.Code != want {
				k.t.Fatalf("%s: Do(%s, %d) = %d, want %d", promise, short(r), now, told.Code, want)
			}
		}
	}
	if want == ok {
		ask()
		return
	}
	k.still(promise, "what is refused", ask)
}

// short is a request, as far as a failure tells it.
func short(r api.Request) string {
	return fmt.Sprintf("%.300s", fmt.Sprint(r))
}

// shown is all that a response tells.
func shown(r api.Response) string {
	var text strings.Builder
	fmt.Fprintf(&text, "%d#%d %d %d %d %d %q %v", r.Kind, r.ID, r.Code, r.Offset, r.Start, r.Next, r.Topics, r.Parts)
	for _, b := range r.Batches {
		fmt.Fprintf(&text, "\n%d+%d p%d.%d", b.Base, b.Span, b.Producer, b.Seq)
		for _, r := range b.Records {
			fmt.Fprintf(&text, " {%v %q %v %q %d %d}", r.HasKey, r.Key, r.HasVal, r.Val, r.Time, r.Off)
		}
	}
	return text.String()
}

// steps holds a call that is no request against what the plain broker told.
func (k *kit) steps(promise, what string, want bool, code api.Errno, got bool, e api.Errno) bool {
	k.t.Helper()
	if got != want || e != code {
		k.t.Fatalf("%s: %s = %v %d, want %v %d", promise, what, got, e, want, code)
	}
	return got
}

func (k *kit) retains(promise, topic string, part, now int) bool {
	k.t.Helper()
	want, code := k.q.retain(topic, part, now)
	got, e := k.b.Retain(topic, part, now)
	return k.steps(promise, fmt.Sprintf("Retain(%.60q, %d, %d)", topic, part, now), want, code, got, e)
}

func (k *kit) compacts(promise, topic string, part, now int) bool {
	k.t.Helper()
	want, code := k.q.compact(topic, part, now)
	got, e := k.b.Compact(topic, part, now)
	return k.steps(promise, fmt.Sprintf("Compact(%.60q, %d, %d)", topic, part, now), want, code, got, e)
}

func (k *kit) sweeps(promise string) bool {
	k.t.Helper()
	want := k.q.sweep()
	got, e := k.b.Sweep()
	return k.steps(promise, "Sweep()", want, ok, got, e)
}

// tidies holds Tidy against 18's Compact, of a twin of what is there.
func (k *kit) tidies(promise string, now int) bool {
	k.t.Helper()
	twin := mounted(k.t, k.d.Crash(nil), k.q)
	g, e := groups.Open(twin.f, "/offsets")
	k.do(e)
	want, code := g.Compact(now)
	got, e := k.b.Tidy(now)
	if k.raw("/offsets") != twin.raw("/offsets") {
		k.t.Fatalf("%s: Tidy(%d) is not 18's Compact", promise, now)
	}
	return k.steps(promise, fmt.Sprintf("Tidy(%d)", now), want, code, got, e)
}

// looks are requests that only look, at all that the plain broker has and at what is around it.
func (q *plain) looks() []api.Request {
	l := []api.Request{topics()}
	for name, x := range q.topics {
		for n, log := range x.logs {
			l = append(l, fetch(name, n, log.start(), most), fetch(name, n, log.next(), 1), fetch(name, n, log.start()-1, 1), fetch(name, n, log.next()+1, 1), list(name, n, 0), list(name, n, end))
		}
		l = append(l, fetch(name, len(x.logs), 0, 1), offset("nobody", name, 0))
		for key := range q.offsets {
			l = append(l, offset(key.group, name, key.part))
		}
	}
	return l
}

// is must be all that can be asked. Nothing of that changes anything.
func (k *kit) is(promise string) {
	k.t.Helper()
	ops := k.d.Ops()
	k.asks(promise, 0, k.q.looks()...)
	for name, x := range k.q.topics {
		for n, l := range x.logs {
			k.knows(promise, name, n, l)
		}
	}
	if got, want := k.folders(), k.q.folders(); !reflect.DeepEqual(got, want) {
		k.t.Fatalf("%s: the directories are\n%q\nwant\n%q", promise, got, want)
	}
	if k.d.Ops() != ops {
		k.t.Fatalf("%s: what only looks wrote by %d ops", promise, k.d.Ops()-ops)
	}
}

// matches is whether all that looks tells what another plain broker tells.
func (k *kit) matches(q *plain) bool {
	k.t.Helper()
	for _, r := range q.looks() {
		if shown(k.b.Do(r, 0)) != shown(q.do(r, 0)) {
			return false
		}
	}
	return reflect.DeepEqual(k.folders(), q.folders())
}

// knows must be the numbers of all producers of a partition: the last one comes again, none of those around it is taken.
func (k *kit) knows(promise, name string, part int, l *plainLog) {
	k.t.Helper()
	r := rec("other", "again", 0)
	for p, was := range l.known {
		k.asks(promise, 0, add(name, part, p, was.seq, r))
		for _, seq := range []int{was.seq - 1, was.seq + 2, was.seq + 100} {
			if seq >= 0 {
				k.asks(promise, 0, add(name, part, p, seq, r))
			}
		}
	}
	k.asks(promise, 0, add(name, part, 987654, 1, r))
}

// again must be told by a broker that is Opened anew, here, and behind a crash. Open changes nothing.
func (k *kit) again(promise string) {
	k.t.Helper()
	k.is(promise)
	k.still(promise, "Open", func() { k.t.Helper(); k.opens() })
	k.is(promise)
	k.fork().is(promise)
}

// goesOn: a broker is one like any other.
func (k *kit) goesOn(promise string) {
	k.t.Helper()
	for _, name := range slices.Sorted(maps.Keys(k.q.topics)) {
		next := k.q.topics[name].logs[0].known[7].seq + 1
		k.asks(promise, 3, add(name, 0, 0, 0, rec("goes on", long(300), 9)), add(name, 0, 7, next, rec("k", "v", 9)), add(name, 0, 7, next, rec("k", "v", 9)), commit("goes on", name, 0, 5))
		k.compacts(promise, name, 0, 100)
		k.retains(promise, name, 0, 100)
		k.is(promise)
		k.asks(promise, 3, remove(name))
		break
	}
	k.sweeps(promise)
	k.asks(promise, 3, create("goes on", 2, thins()), add("goes on", 1, 7, 0, rec("k", "v", 9), tomb("k", 10)), commit("goes on", "goes on", 1, 5), commit("goes on", "goes on", 1, 6))
	k.tidies(promise, 4)
	k.again(promise)
}

// folders are the directories in /topics, each with the names in it.
func (k *kit) folders() map[string][]string {
	k.t.Helper()
	names, e := k.f.List("/topics")
	k.do(e)
	m := map[string][]string{}
	for _, name := range names {
		if l, e := k.f.List("/topics/" + name); e == ok {
			m[name] = append([]string{}, l...)
		}
	}
	return m
}

// still does what must change nothing: neither the file system nor the device.
func (k *kit) still(promise, what string, do func()) {
	k.t.Helper()
	was, ops := k.raw("/"), k.d.Ops()
	do()
	k.same(promise, what, k.raw("/"), was)
	if k.d.Ops() != ops {
		k.t.Fatalf("%s: %s wrote by %d ops", promise, what, k.d.Ops()-ops)
	}
}

// same must be what a call leaves; the first line that is not is told.
func (k *kit) same(promise, what, got, want string) {
	k.t.Helper()
	a, b := strings.Split(got, "\n"), strings.Split(want, "\n")
	for i := range max(len(a), len(b)) {
		if i >= len(a) || i >= len(b) || a[i] != b[i] {
			k.t.Fatalf("%s: %s leaves\n%.500q\nwant\n%.500q", promise, what, a[min(i, len(a)):min(i+1, len(a))], b[min(i, len(b)):min(i+1, len(b))])
		}
	}
}

// raw is all that a file system tells below a path: what is free, and each path with its kind, size and bytes.
func (k *kit) raw(path string) string {
	var text strings.Builder
	if path == "/" {
		fmt.Fprintln(&text, fmt.Sprint(k.f.Free()))
	}
	rawInto(&text, k.f, path)
	return text.String()
}

func rawInto(text *strings.Builder, f *fs.FS, path string) {
	s, e := f.Stat(path)
	fmt.Fprintf(text, "%s %d %d %d", path, s.Kind, s.Size, e)
	if s.Kind == 1 {
		b, e := f.Read(path, 0, most)
		fmt.Fprintf(text, " %q %d\n", strings.TrimRight(string(b), "\x00"), e)
		return
	}
	l, e := f.List(path)
	fmt.Fprintf(text, " %q %d\n", l, e)
	for _, name := range l {
		rawInto(text, f, strings.TrimSuffix(path, "/")+"/"+name)
	}
}

// whole is all that a broker has, but for how much is free beside it.
func (k *kit) whole() string {
	return k.raw("/topics") + k.raw("/offsets")
}

// wrongNames are names that may not be.
func wrongNames() []string {
	return []string{"", ".", "..", "/", "a/b", "/a", "a/", "a\x00", "\x00", "\x00a", long(51), long(52), long(200000), strings.Repeat("\x00", 50)}
}

// edgeNames are names that may be, but look as if they may not.
func edgeNames() []string {
	return []string{"...", " ", "a b", "A", "\xff\xfe", "\n", long(50), "t1-0", "catalog", "producers", "topics", "-", "é"}
}

// stock lets a broker have something of all that there may be: topics of each kind of settings, several segments, producers, offsets, and what a deleted topic left.
func stock(t *testing.T, blocks, inodes int) *kit {
	t.Helper()
	k := made(t, blocks, inodes)
	k.asks("P21.2", 10, create("gone", 2, keeps()), create("a", 2, keeps()), create("c", 1, thins()), create("s", 1, sheds()), add("gone", 1, 7, 0, rec("x", "y", 1)), commit("g", "gone", 0, 4))
	for i := range 6 {
		k.asks("P21.2", 10+i,
			add("a", 0, 7, i, rec(fmt.Sprint("k", i%2), long(150), 10+i), bare(long(50), 9)),
			add("a", 1, 1+i, 0, bare("", 3)),
			add("c", 0, 7, i, rec(fmt.Sprint("k", i%2), long(250), 10+i), tomb(fmt.Sprint("t", i%3), 20+i)),
			add("s", 0, 0, 0, rec("k", long(280), 100*i)),
			commit("g", "a", i%2, 100+i), commit(fmt.Sprint("h", i%4), "c", 0, i))
	}
	k.asks("P21.2", 20, remove("gone"))
	return k
}
