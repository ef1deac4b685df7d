package world_test

import (
	"encoding/binary"
	"slices"
	"testing"

	"bollard/api"
	"bollard/broker"
	"bollard/conns"
	"bollard/device"
	"bollard/fs"
)

// model is a world as the chapter says it: a plain broker whose power never goes, a plain reader of frames, and a time.
type model struct {
	q    *plain
	now  int
	wait map[int][]byte // of each open connection the bytes that are in no frame yet
	next int
}

func newModel() *model {
	return &model{q: newPlain(), wait: map[int][]byte{}}
}

// tick is Tick. Neither of the two, as such numbers, can be too great for their sum.
func (m *model) tick(n int) {
	if n > 0 {
		m.now = int(min(uint64(m.now)+uint64(n), end))
	}
}

// open is Open.
func (m *model) open() (int, api.Errno) {
	if len(m.wait) == maxConns {
		return 0, full
	}
	m.wait[m.next] = nil
	m.next++
	return m.next - 1, ok
}

// feed is Feed.
func (m *model) feed(conn int, p []byte) (told []byte, e api.Errno) {
	row, open := m.wait[conn]
	if !open {
		return nil, none
	}
	row = append(slices.Clone(row), p...)
	for len(row) >= 4 {
		n := binary.BigEndian.Uint32(row)
		if n > maxFrame {
			delete(m.wait, conn)
			return told, ok
		}
		if len(row) < 4+int(n) {
			break
		}
		told = append(told, m.answer(row[4:4+n])...)
		row = row[4+n:]
	}
	m.wait[conn] = row
	return told, ok
}

// answer is the frame that answers a frame's bytes.
func (m *model) answer(b []byte) []byte {
	r, is := readRequest(b)
	if !is {
		return told(api.Response{Code: text})
	}
	a := m.q.do(r, m.now)
	if len(laidResponse(a)) > maxFrame {
		a = api.Response{Kind: a.Kind, ID: a.ID, Code: big}
	}
	return told(a)
}

// step is Step, but for Tidy: what that tells hangs on how many bytes a committed offset has, which is 18's own matter.
func (m *model) step(kind int, topic string, part int) (bool, api.Errno) {
	switch kind {
	case retain:
		return m.q.retain(topic, part, m.now)
	case compact:
		return m.q.compact(topic, part, m.now)
	case sweep:
		return m.q.sweep(), ok
	}
	return false, arg
}

// crash is Crash of a world of which nothing was cut off.
func (m *model) crash() {
	m.wait = map[int][]byte{}
}

// layers are those that a world stands on, put together by hand.
type layers struct {
	d     *device.Device
	f     *fs.FS
	b     *broker.Broker
	c     *conns.Conns
	first int // connections that crashes took
	next  int
}

// newLayers is what New says, each layer's error in its turn.
func newLayers(blocks, inodes int) (*layers, api.Errno) {
	l := &layers{}
	var e api.Errno
	if l.d, e = device.New(blocks); e != ok {
		return nil, e
	}
	if e = fs.Mkfs(l.d, inodes); e != ok {
		return nil, e
	}
	if l.f, e = fs.Mount(l.d); e != ok {
		return nil, e
	}
	if e = broker.Format(l.f); e != ok {
		return nil, e
	}
	if l.b, e = broker.Open(l.f); e != ok {
		return nil, e
	}
	l.c = conns.New(l.b)
	return l, ok
}

func (l *layers) open() (int, api.Errno) {
	_, e := l.c.Open()
	if e != ok {
		return 0, e
	}
	l.next++
	return l.next - 1, ok
}

func (l *layers) feed(conn int, p []byte, now int) ([]byte, api.Errno) {
	if conn < l.first || conn >= l.next {
		return nil, none
	}
	return l.c.Feed(conn-l.first, p, now)
}

func (l *layers) step(kind int, topic string, part, now int) (bool, api.Errno) {
	switch kind {
	case retain:
		return l.b.Retain(topic, part, now)
	case compact:
		return l.b.Compact(topic, part, now)
	case tidy:
		return l.b.Tidy(now)
	case sweep:
		return l.b.Sweep()
	}
	return false, arg
}

// crash is what Crash says.
func (l *layers) crash(t *testing.T, picks, cuts []int) {
	t.Helper()
	d := l.d.Crash(picks)
	for i, c := range cuts {
		if i == 20 {
			break
		}
		d.Cut(c)
		if f, e := fs.Mount(d); e == ok {
			broker.Open(f)
		}
		d = d.Crash(picks)
	}
	f, e := fs.Mount(d)
	if e != ok {
		t.Fatalf("P10.6: Mount behind a crash = %d", e)
	}
	b, e := broker.Open(f)
	if e != ok {
		t.Fatalf("P21.4: Open behind a crash = %d", e)
	}
	*l = layers{d, f, b, conns.New(b), l.next, l.next}
}
