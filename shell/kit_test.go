package shell_test

import (
	"fmt"
	"strconv"
	"strings"
	"testing"

	"bollard/api"
	"bollard/codec"
	"bollard/frame"
	"bollard/shell"
	"bollard/world"
)

// dice are numbers without a pattern, the same ones at each run.
type dice uint64

func (x *dice) below(n int) int {
	*x = *x*6364136223846793005 + 1442695040888963407
	return int(uint64(*x) >> 33 % uint64(n))
}

// pick is one of a list.
func pick[T any](x *dice, l ...T) T {
	return l[x.below(len(l))]
}

func itoa(n int) string { return strconv.Itoa(n) }

// script is lines with their ends.
func script(lines ...string) string {
	if len(lines) == 0 {
		return ""
	}
	return strings.Join(lines, "\n") + "\n"
}

// many is a line n times.
func many(n int, line string) []string {
	l := make([]string, n)
	for i := range l {
		l[i] = line
	}
	return l
}

// long is a word of n bytes.
func long(n int) string { return strings.Repeat("v", n) }

// brief is a text, as far as a failure tells it.
func brief(s string) string {
	if len(s) > 400 {
		return fmt.Sprintf("%q.. (%d bytes)", s[:400], len(s))
	}
	return fmt.Sprintf("%q", s)
}

// plays must be what a script answers, line by line.
func plays(t *testing.T, promise, text string, want []string) {
	t.Helper()
	if shell.Play(text) == strings.Join(want, "") {
		return
	}
	p := shell.Begun()
	for i, line := range linesOf(text) {
		if got := p.Answer(line); i < len(want) && got != want[i] {
			t.Fatalf("%s: line %d, %s:\n got %s\nwant %s", promise, i, brief(line), brief(got), brief(want[i]))
		}
	}
	t.Fatalf("%s: Play(%s) = %s, want %s", promise, brief(text), brief(shell.Play(text)), brief(strings.Join(want, "")))
}

// state is what no answer tells, or only by what comes behind.
func state(asked int, w *world.World) string {
	blocks, inodes := w.Free()
	return fmt.Sprintf("requests %d, ops %d, now %d, free %d and %d", asked, w.Ops(), w.Now(), blocks, inodes)
}

// level must be what each line answers, and what no answer tells.
func level(t *testing.T, promise string, lines []string) {
	t.Helper()
	p, h := shell.Begun(), newHand()
	for i, line := range lines {
		if got, want := p.Answer(line), h.answer(line); got != want {
			t.Fatalf("%s: line %d, %s:\n got %s\nwant %s", promise, i, brief(line), brief(got), brief(want))
		}
		if got, want := state(p.Asked(), p.World()), state(h.asked, h.w); got != want {
			t.Fatalf("%s: behind line %d, %s:\n got %s\nwant %s", promise, i, brief(line), got, want)
		}
	}
}

// scene is lines, each with its answer behind an arrow: none, or lines parted by ` / `. By hand the answers are the same.
func scene(t *testing.T, promise string, rows ...string) {
	t.Helper()
	var lines, want []string
	for _, row := range rows {
		line, told, ok := strings.Cut(row, " ->")
		if !ok {
			t.Fatalf("%s: no arrow in %q", promise, row)
		}
		if told = strings.TrimPrefix(told, " "); told != "" {
			told = strings.ReplaceAll(told, " / ", "\n") + "\n"
		}
		lines = append(lines, line)
		want = append(want, told)
	}
	for i, told := range byHand(script(lines...)) {
		if told != want[i] {
			t.Fatalf("%s: by hand line %d, %s, answers %s, want %s", promise, i, brief(lines[i]), brief(told), brief(want[i]))
		}
	}
	plays(t, promise, script(lines...), want)
	plays(t, promise, strings.TrimSuffix(script(lines...), "\n"), want)
}

// wrapped is bytes as a frame, in hexadecimal digits.
func wrapped(b ...byte) string {
	f, ok := frame.Wrap(b)
	if !ok {
		panic(fmt.Sprint("P19.2: no frame of ", len(b)))
	}
	return fmt.Sprintf("%x", f)
}

// asking is requests as frames, in hexadecimal digits.
func asking(l ...api.Request) (all string) {
	for _, r := range l {
		b, e := codec.Request(r)
		if e != api.OK {
			panic(fmt.Sprint("P20.1: no request: ", r))
		}
		all += wrapped(b...)
	}
	return all
}

// telling is responses as frames, in hexadecimal digits.
func telling(l ...api.Response) (all string) {
	for _, r := range l {
		b, e := codec.Response(r)
		if e != api.OK {
			panic(fmt.Sprint("P20.1: no response: ", r))
		}
		all += wrapped(b...)
	}
	return all
}

// Requests that come by connections.
func sentAppend(id int, topic string, producer, seq int, l ...api.Record) api.Request {
	return api.Request{Kind: api.ReqAppend, ID: id, Topic: topic, Producer: producer, Seq: seq, Records: l}
}

func sentFetch(id int, topic string, most int) api.Request {
	return api.Request{Kind: api.ReqFetch, ID: id, Topic: topic, Max: most}
}

func sentOffset(id int, group, topic string) api.Request {
	return api.Request{Kind: api.ReqOffset, ID: id, Group: group, Topic: topic}
}

// Stock is something of all that there may be: topics of each kind of settings, several segments, producers, offsets, what a deleted topic left, connections, half a frame that waits, and a time.
func stock() []string {
	half := asking(sentFetch(5, "a", 1000))
	return []string{
		"create gone 1 512 -1 -1 0 0",
		"create a 2 600 -1 -1 0 0",
		"create c 1 512 1000 50 1 5",
		"append a 0 7 0 k=v -=w k=- =",
		"tick 40",
		"append a 0 7 1 k=" + long(400) + " l=" + long(100),
		"append a 0 0 0 m=" + long(300),
		"append c 0 8 0 k=" + long(400),
		"append c 0 8 1 k=" + long(400),
		"append c 0 8 2 k=-",
		"append c 0 0 0 l=" + long(400),
		"commit g a 0 7",
		"commit g a 1 0",
		"commit g a 0 8",
		"delete gone",
		"open",
		"open",
		"send 0 " + half[:20],
		"tick 20",
	}
}

// looks tell of all of it, and change some of it on the way.
func looks() []string {
	half := asking(sentFetch(5, "a", 1000))
	l := []string{
		"topics", "fetch a 0 0 9999", "fetch a 1 0 9999", "fetch c 0 0 9999", "list a 0 0", "list a 0 40", "list a 0 41", "list c 0 1",
		"offset g a 0", "offset g a 1", "offset h a 0", "append a 0 7 1 again=", "append a 0 7 0 early=", "append a 0 7 3 gap=", "append c 0 8 2 again=",
		"send 0 " + half[20:], "send 1 " + half, "send 2 00", "append a 1 0 0 now=-", "fetch a 1 0 9999", "open", "send 2 " + half,
		"retain c 0", "compact c 0", "retain c 0", "compact c 0", "tidy",
	}
	l = append(l, many(4, "sweep")...)
	return append(l, "fetch c 0 0 9999", "fetch c 0 1 9999", "fetch c 0 2 9999", "create gone 1 512 -1 -1 0 0", "fetch gone 0 0 1", "topics")
}
