package shell_test

import (
	"fmt"
	"slices"
	"strings"
	"testing"

	"bollard/api"
	"bollard/shell"
)

// appends is some more than there is room for.
const appends = 292

// filled is lines by which all inodes are taken: each append begins a segment. What is refused for room changes nothing.
func filled() []string {
	l := []string{"create a 1 512 0 -1 1 0", "create c 1 512 0 -1 1 0"}
	for i := range appends {
		l = append(l, "append a 0 0 0 k="+long(300)+itoa(i%10))
	}
	return l
}

// TestFull: without room what needs it is refused, and the others go on; with room again nothing is.
func TestFull(t *testing.T) {
	t.Parallel()
	text := script(filled()...)
	told := shell.Play(text)
	plays(t, "P25.1", text, byHand(text))
	done := strings.Count(told, "ok ")
	if done < 200 || done == appends || strings.Count(told, "error 3\n") != appends-done || strings.Count(told, "error") != appends-done {
		t.Fatalf("P25.1: of %d appends that begin a segment each %d are answered, and %d refused for room", appends, done, strings.Count(told, "error 3\n"))
	}
	full := []string{"create b 8 512 -1 -1 0 0", "append a 0 0 0 k=" + long(300), "compact a 0", "topics", "commit g a 0 1", "offset g a 0", "fetch a 0 0 1", "append c 0 0 0 k=v", fmt.Sprintf("list a 0 %d", 0)}
	want := []string{"error 3\n", "error 3\n", "error 3\n", "ok\ntopic a 1\ntopic c 1\n", "ok\n", "ok 1\n", fmt.Sprintf("ok 0 %d\n0 0 k=%s0\n", done, long(300)), "ok 0 0 1\n", fmt.Sprintf("ok 0 0 %d\n", done)}
	room := []string{"retain a 0", "compact a 0", "append a 0 0 0 k=" + long(300)}
	wantRoom := []string{"true\n", "true\n", fmt.Sprintf("ok %d 1 %d\n", done, done+1)}
	all := script(slices.Concat(filled(), full, room)...)
	plays(t, "P25.1", all, byHand(all))
	if got := strings.TrimPrefix(shell.Play(all), told); got != strings.Join(append(want, wantRoom...), "") {
		t.Errorf("P25.1: with all inodes taken: %s, want %s", brief(got), brief(strings.Join(append(want, wantRoom...), "")))
	}
}

// TestFullOffsets: commits take room, too, and tidying takes some first.
func TestFullOffsets(t *testing.T) {
	t.Parallel()
	l := []string{makeALine}
	for i := range 10000 - 20 {
		l = append(l, "commit "+strings.Repeat("g", 10)+" a 0 "+itoa(i%10))
	}
	l = append(l, "tidy", "offset "+strings.Repeat("g", 10)+" a 0", "topics", "delete a", "sweep", "sweep", "sweep", "sweep", "tidy", "tidy", "topics")
	text := script(l...)
	if len(text) > api.MaxScript {
		t.Fatal("the script is too long")
	}
	plays(t, "P25.1", text, byHand(text))
	if told := shell.Play(text); !strings.Contains(told, "error 3\n") || !strings.HasSuffix(told, "true\ntrue\ntrue\nfalse\ntrue\ntrue\nok\n") {
		t.Errorf("P25.1: commits without end: %s", brief(told[max(0, len(told)-200):]))
	}
}

// TestRoom: topics of so many parts that some find no room.
func TestRoom(t *testing.T) {
	var l []string
	for i := range 21 {
		l = append(l, fmt.Sprintf("create t%d 8 512 -1 -1 0 0", i))
	}
	l = append(l, "topics", "create t1 8 512 -1 -1 0 0", "create u 1 512 -1 -1 0 0", "delete t0", "create w 8 512 -1 -1 0 0")
	l = append(l, many(30, "sweep")...)
	l = append(l, "create w 8 512 -1 -1 0 0", "topics")
	plays(t, "P25.1", script(l...), byHand(script(l...)))
	if told := shell.Play(script(l...)); !strings.Contains(told, "error 3\n") || !strings.HasSuffix(told, "topic u 1\ntopic w 8\n") {
		t.Errorf("P25.1: too many parts: %s", brief(told))
	}
}
