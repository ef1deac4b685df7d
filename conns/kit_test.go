package conns_test

import (
	"bytes"
	"encoding/binary"
	"fmt"
	"maps"
	"math"
	"slices"
	"strings"
	"testing"

	"bollard/api"
	"bollard/broker"
	"bollard/conns"
	"bollard/device"
	"bollard/fs"
)

// Short names of errors and edges, for rows of calls.
const (
	ok       = api.OK
	arg      = api.ErrArg
	big      = api.ErrBig
	full     = api.ErrFull
	none     = api.ErrNone
	exist    = api.ErrExist
	off      = api.ErrOff
	gap      = api.ErrGap
	outside  = api.ErrRange
	text     = api.ErrText
	least    = math.MinInt
	most     = math.MaxInt
	end      = 1 << 50 // the greatest time and offset
	maxFrame = 8192
	maxConns = 16
)

// dice are numbers without a pattern, the same ones at each run.
type dice uint64

func (x *dice) below(n int) int {
	*x = *x*6364136223846793005 + 1442695040888963407
	return int(uint64(*x) >> 33 % uint64(n))
}

// pick is one of a list.
func pick[T any](x *dice, l ...T) T {
	return l[x.below(len(l))]
}

// pieces cuts bytes anywhere; some pieces are empty.
func (x *dice) pieces(b []byte, apart int) (l [][]byte) {
	for len(b) > 0 {
		n := min(x.below(apart), len(b))
		l = append(l, b[:n])
		b = b[n:]
	}
	return l
}

// Requests, each with an ID of its own.
func create(topic string, parts int) api.Request {
	return api.Request{Kind: 1, ID: 11, Topic: topic, Parts: parts, Set: api.Settings{Segment: 600, Bytes: -1, Age: -1}}
}

// thins is a create of a topic whose records all have keys.
func thins(topic string) api.Request {
	r := create(topic, 1)
	r.Set.Compact, r.Set.Delay = true, 5
	return r
}

func remove(topic string) api.Request { return api.Request{Kind: 2, ID: 12, Topic: topic} }

func topics() api.Request { return api.Request{Kind: 3, ID: 13} }

func add(topic string, part, producer, seq int, l ...api.Record) api.Request {
	return api.Request{Kind: 4, ID: 14, Topic: topic, Part: part, Producer: producer, Seq: seq, Records: l}
}

func fetch(topic string, part, offset, most int) api.Request {
	return api.Request{Kind: 5, ID: 15, Topic: topic, Part: part, Offset: offset, Max: most}
}

func list(topic string, part, time int) api.Request {
	return api.Request{Kind: 6, ID: 16, Topic: topic, Part: part, Time: time}
}

func commit(group, topic string, part, offset int) api.Request {
	return api.Request{Kind: 7, ID: 17, Group: group, Topic: topic, Part: part, Offset: offset}
}

func offset(group, topic string, part int) api.Request {
	return api.Request{Kind: 8, ID: 18, Group: group, Topic: topic, Part: part}
}

// Records.
func rec(key, val string, time int) api.Record {
	return api.Record{HasKey: true, Key: key, HasVal: true, Val: val, Time: time}
}

func tomb(key string, time int) api.Record { return api.Record{HasKey: true, Key: key, Time: time} }

func bare(val string, time int) api.Record { return api.Record{HasVal: true, Val: val, Time: time} }

func long(n int) string { return strings.Repeat("v", n) }

// sized are records that make a batch of just so many bytes, at least 200.
func sized(n int) []api.Record {
	var l []api.Record
	for left := n - 48; left > 0; {
		size := min(left, 1900)
		if left > size && left-size < 200 {
			size -= 200
		}
		r := rec("k", "", 3)
		r.Val = long(size - 7) // a byte each of marks, Off, time and key's length, the key, two of the value's length
		l = append(l, r)
		left -= size
	}
	if b, e := fresh(0, 0, 0, l); e == ok && len(laidBatch(b)) != n {
		panic(fmt.Sprint("the test's own batch has ", len(laidBatch(b)), " bytes, not ", n))
	}
	return l
}

// every is a row of requests of all Kinds, some of which are refused.
func every() []api.Request {
	return []api.Request{
		topics(), create("b", 2), create("b", 1), thins("c"), add("b", 1, 0, 0, rec("k", "v", 3), bare("", 5)), add("b", 1, 7, 0, tomb("k", 8)), add("b", 1, 7, 0, tomb("k", 8)),
		add("b", 1, 7, 5, tomb("k", 8)), add("c", 0, 0, 0, bare("v", 1)), add("q", 0, 0, 0, bare("v", 1)), fetch("b", 1, 1, 1000), fetch("b", 1, 9, 1000), fetch("b", 0, 0, 1),
		list("b", 1, 4), list("q", 1, 4), commit("g", "b", 1, 77), commit("", "b", 1, 77), offset("g", "b", 1), offset("h", "b", 1), topics(), remove("a"), remove("a"), topics(),
	}
}

// model is connections as the chapter says them, on a plain broker whose power never goes.
type model struct {
	q    *plain
	wait map[int][]byte // of each open connection the bytes that are in no frame yet
	next int
}

// open is Open.
func (m *model) open() (int, api.Errno) {
	if len(m.wait) == maxConns {
		return 0, full
	}
	m.wait[m.next] = nil
	m.next++
	return m.next - 1, ok
}

// feed is Feed.
func (m *model) feed(conn int, p []byte, now int) (told []byte, e api.Errno) {
	row, open := m.wait[conn]
	if !open {
		return nil, none
	}
	row = append(slices.Clone(row), p...)
	for len(row) >= 4 {
		n := binary.BigEndian.Uint32(row)
		if n > maxFrame {
			delete(m.wait, conn)
			return told, ok
		}
		if len(row) < 4+int(n) {
			break
		}
		told = append(told, m.answer(row[4:4+n], now)...)
		row = row[4+n:]
	}
	m.wait[conn] = row
	return told, ok
}

// answer is the frame that answers a frame's bytes.
func (m *model) answer(b []byte, now int) []byte {
	r, is := readRequest(b)
	if !is {
		return told(api.Response{Code: text})
	}
	a := m.q.do(r, now)
	if len(laidResponse(a)) > maxFrame {
		a = api.Response{Kind: a.Kind, ID: a.ID, Code: big}
	}
	return told(a)
}

// closed is Closed.
func (m *model) closed(conn int) bool {
	_, open := m.wait[conn]
	return conn >= 0 && conn < m.next && !open
}

// kit is connections, what stands under them, and the plain ones that they are held against.
type kit struct {
	t *testing.T
	d *device.Device
	b *broker.Broker
	c *conns.Conns
	m *model
}

// made is connections on a new broker; none is open.
func made(t *testing.T, blocks, inodes int) *kit {
	t.Helper()
	d, e := device.New(blocks)
	if e != ok {
		t.Fatalf("device.New(%d) = %d", blocks, e)
	}
	if e := fs.Mkfs(d, inodes); e != ok {
		t.Fatalf("P10.1: Mkfs of %d blocks and %d inodes = %d", blocks, inodes, e)
	}
	f, e := fs.Mount(d)
	if e != ok {
		t.Fatalf("P10.1: Mount = %d", e)
	}
	if e := broker.Format(f); e != ok {
		t.Fatalf("P21.1: Format = %d", e)
	}
	return mounted(t, d, newPlain(), 0)
}

// mounted is connections on the broker that a device has; the first so many are open.
func mounted(t *testing.T, d *device.Device, q *plain, open int) *kit {
	t.Helper()
	f, e := fs.Mount(d)
	if e != ok {
		t.Fatalf("P10.1: Mount = %d", e)
	}
	b, e := broker.Open(f)
	if e != ok {
		t.Fatalf("P21.1: Open = %d", e)
	}
	c := conns.New(b)
	if c == nil {
		t.Fatalf("P22.1: New made none")
	}
	k := &kit{t, d, b, c, &model{q: q, wait: map[int][]byte{}}}
	for range open {
		k.opens("P22.1")
	}
	return k
}

// fork is connections of their own on a broker with the same in it.
func (k *kit) fork(open int) *kit {
	k.t.Helper()
	return mounted(k.t, k.d.Crash(nil), k.m.q.clone(), open)
}

// opens holds Open against the plain connections.
func (k *kit) opens(promise string) int {
	k.t.Helper()
	want, code := k.m.open()
	got, e := k.c.Open()
	if got != want || e != code {
		k.t.Fatalf("%s: Open() = %d %d, want %d %d", promise, got, e, want, code)
	}
	return got
}

// feeds holds Feed of pieces against the plain connections, and tells all that was answered.
func (k *kit) feeds(promise string, conn, now int, pieces ...[]byte) (all []byte) {
	k.t.Helper()
	for _, p := range pieces {
		want, code := k.m.feed(conn, p, now)
		got, e := k.c.Feed(conn, p, now)
		if !bytes.Equal(got, want) || e != code {
			k.t.Fatalf("%s: Feed(%d, %s, %d) =\n %s %d, want\n %s %d", promise, conn, short(p), now, short(got), e, short(want), code)
		}
		if k.c.Closed(conn) != k.m.closed(conn) || k.c.Dead() {
			k.t.Fatalf("%s: behind Feed(%d, %s, %d): Closed is %v, Dead %v", promise, conn, short(p), now, k.c.Closed(conn), k.c.Dead())
		}
		all = append(all, got...)
	}
	return all
}

// asks holds requests, one a piece, against the plain connections.
func (k *kit) asks(promise string, conn, now int, l ...api.Request) {
	k.t.Helper()
	for _, r := range l {
		k.feeds(promise, conn, now, asked(r))
	}
}

// short is bytes, as far as a failure tells them.
func short(b []byte) string {
	return fmt.Sprintf("%d:%.600x", len(b), b)
}

// is must be all that can be asked, through a connection of its own; nothing of that changes anything.
func (k *kit) is(promise string) {
	k.t.Helper()
	ops := k.d.Ops()
	for n := range k.m.next + 3 {
		if k.c.Closed(n) != k.m.closed(n) {
			k.t.Fatalf("%s: Closed(%d) = %v", promise, n, !k.m.closed(n))
		}
	}
	for _, r := range k.m.q.looks() {
		k.looksLike(promise, r, k.m.q.do(r, 0))
	}
	for _, n := range slices.Sorted(maps.Keys(k.m.wait)) {
		k.feeds(promise, n, 0, nil, []byte{})
	}
	if k.d.Ops() != ops {
		k.t.Fatalf("%s: what only looks wrote by %d ops", promise, k.d.Ops()-ops)
	}
}

// looksLike must be what the broker itself answers.
func (k *kit) looksLike(promise string, r api.Request, want api.Response) {
	k.t.Helper()
	if got := k.b.Do(r, 0); !bytes.Equal(laidResponse(got), laidResponse(want)) {
		k.t.Fatalf("%s: the broker answers %.300s\n by %.500s, want\n %.500s", promise, fmt.Sprint(r), fmt.Sprint(got), fmt.Sprint(want))
	}
}

// matches is whether the broker is as another plain one.
func (k *kit) matches(q *plain) bool {
	k.t.Helper()
	for _, r := range q.looks() {
		if !bytes.Equal(laidResponse(k.b.Do(r, 0)), laidResponse(q.do(r, 0))) {
			return false
		}
	}
	return true
}

// goesOn: connections like any others.
func (k *kit) goesOn(promise string) {
	k.t.Helper()
	n := k.opens(promise)
	k.asks(promise, n, 3, topics(), create("goes on", 2), add("goes on", 1, 7, 0, rec("k", "v", 9), tomb("k", 10)), add("goes on", 1, 7, 0, rec("k", "v", 9)), commit("goes on", "goes on", 1, 5), offset("goes on", "goes on", 1), fetch("goes on", 1, 0, 1000))
	k.feeds(promise, n, 3, framed(99, 99), []byte{0, 0}, []byte{0, 5, 3, 0, 0, 0, 2, 255, 255, 255, 255})
	k.is(promise)
}

// stock is a broker that has something, with two connections.
func stock(t *testing.T) *kit {
	t.Helper()
	k := made(t, 900, 100)
	k.opens("P22.1")
	k.asks("P22.1", 0, 10, create("a", 2), thins("s"), create("gone", 1), remove("gone"))
	for i := range 4 {
		k.asks("P22.1", 0, 10, add("a", 0, 7, i, rec("k", long(150), 10+i), bare(long(50), 9)), add("a", 1, 1+i, 0, bare("", 3)), add("s", 0, 0, 0, rec("k", long(250), 5)), commit("g", "a", i%2, i))
	}
	k.opens("P22.1")
	return k
}
