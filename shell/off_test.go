package shell_test

import (
	"fmt"
	"slices"
	"strings"
	"testing"

	"bollard/api"
	"bollard/shell"
)

// TestOff: behind the power's going all that needs the device is off, until a crash; what was answered is there.
func TestOff(t *testing.T) {
	scene(t, "P25.1", makeA, "append a 0 0 0 k=v -> ok 0 0 1", "open -> conn 0", "cut 0 ->", "append a 0 0 0 k=w -> error 9",
		"create b 1 512 -1 -1 0 0 -> error 9", "delete a -> error 9", "delete q -> error 9", "commit g a 0 1 -> error 9", "topics -> error 9", "append a 0 0 0 k=v -> error 9", "fetch a 0 0 9 -> error 9", "list a 0 0 -> error 9", "offset g a 0 -> error 9",
		"retain a 0 -> error 9", "compact a 0 -> error 9", "tidy -> error 9", "sweep -> error 9", "tick 5 ->", "cut 1000 ->", "topics -> error 9", "x -> error 1", " ->", "open -> conn 1", "send 0 "+asking(api.Request{Kind: api.ReqTopics})+" -> bytes", "send 2 00 -> error 4",
		"crash / -> ok", "send 0 00 -> error 4", "send 1 00 -> error 4", "open -> conn 2", "topics -> ok / topic a 1", "fetch a 0 0 9 -> ok 0 1 / 0 0 k=v", "append a 0 0 0 k=w -> ok 1 0 2", "fetch a 0 1 9 -> ok 0 2 / 1 5 k=w")
	// Each that would change something finds the power off, and so does what comes behind.
	for _, line := range []string{"create b 1 512 -1 -1 0 0", "delete a", "commit g a 0 1", "append a 0 7 0 k=v"} {
		for _, n := range []string{"0", "-1", "-9", "-9223372036854775808"} {
			scene(t, "P25.1", makeA, "cut "+n+" ->", line+" -> error 9", "topics -> error 9", "crash / -> ok", "topics -> ok / topic a 1", "fetch a 0 0 9 -> ok 0 0", "offset g a 0 -> error 4")
		}
	}
	// Steps with something to do.
	for _, step := range []string{"retain a 0", "compact a 0", "tidy", "sweep"} {
		l := append([]string{"create gone 1 512 -1 -1 0 0", "delete gone", "create a 1 512 0 0 1 0", "append a 0 0 0 k=" + long(450), "append a 0 0 0 k=" + long(450)}, many(60, "commit g a 0 1")...)
		was := byHand(script(l...))
		want := slices.Concat(was, []string{"", "error 9\n", "error 9\n", "ok\n", "true\n"})
		plays(t, "P25.1", script(append(l, "cut -9", step, "topics", "crash /", step)...), want)
	}
	scene(t, "P25.1", "cut -9 ->", "tidy -> false")
}

// TestCutLater: a cut lets so many ops be done as ever; a later one takes its place.
func TestCutLater(t *testing.T) {
	t.Parallel()
	scene(t, "P25.1", "cut 3 ->", "cut 9223372036854775807 ->", makeA, "append a 0 0 0 k=v -> ok 0 0 1", "cut 0 ->", "cut 1000 ->", "append a 0 0 0 k=w -> ok 1 0 2", "fetch a 0 0 999 -> ok 0 2 / 0 0 k=v / 1 0 k=w")
	for n := range 40 {
		isAsByHand(t, script("create a 1 512 -1 -1 0 0", "cut "+itoa(n), "append a 0 7 0 k=v l=w", "append a 0 7 1 m=x", "fetch a 0 0 99", "tidy", "crash 1 / 2", "fetch a 0 0 99"))
	}
}

// crashes are lines with picks and cuts of all kinds.
func crashes() []string {
	return []string{"crash /", "crash / 0", "crash 0 /", "crash 1 / 1", "crash 1 0 / 2 3", "crash -1 / -1", "crash -1 -2 3 / -9223372036854775808 9223372036854775807 0 1",
		"crash 9223372036854775807 -9223372036854775808 /", "crash" + strings.Repeat(" 1", 500) + " /" + strings.Repeat(" 3", 25), "crash" + strings.Repeat(" 1 0", 50) + " /" + strings.Repeat(" -1", 30),
		"crash /" + strings.Repeat(" 0", 20), "crash /" + strings.Repeat(" 0", 21), "crash 2 2 2 / 0 1 2 3 4 5 6 7 8 9 10 11 12 13 14 15 16 17 18 19 20 21 22",
		// Behind 20 cuts there may be any; these would leave no power.
		"crash 1 /" + strings.Repeat(" 5", 20) + " 0 0 0"}
}

// TestCrash: crashes are ok, and keep all that was answered; the time stays, connections are gone, and their numbers go on.
func TestCrash(t *testing.T) {
	t.Parallel()
	for _, line := range crashes() {
		scene(t, "P25.1", makeA, "tick 7 ->", "append a 0 7 0 k=v -> ok 0 0 1", "commit g a 0 5 -> ok", "open -> conn 0", "open -> conn 1", "send 1 0000 -> bytes", line+" -> ok", "fetch a 0 0 9 -> ok 0 1 / 0 7 k=v", "append a 0 7 0 k=v -> ok 0 0 1", "offset g a 0 -> ok 5", "send 1 0000 -> error 4", "send 0 00 -> error 4", "open -> conn 2", "send 2 0000 -> bytes", line+" -> ok", "open -> conn 3", "append a 0 7 1 l=w -> ok 1 0 2", "fetch a 0 1 9 -> ok 0 2 / 1 7 l=w")
		level(t, "P25.1", slices.Concat(stock(), []string{line}, looks(), []string{line}, looks()))
		// What is cut off leaves more to do for what comes back, and that is cut off, too.
		for n := range 12 {
			level(t, "P25.1", slices.Concat(stock(), []string{"cut " + itoa(n), "append a 0 9 0 k=v", "delete a", line}, looks()))
		}
	}
	scene(t, "P25.1", "crash -> error 1", "crash / / -> error 1", "crash / -> ok", "topics -> ok")
}

// TestPicks: what a crash leaves of an append that was cut off hangs on the picks, at all cuts; so does it by hand.
func TestPicks(t *testing.T) {
	t.Parallel()
	left := map[string]int{}
	for n := range 40 {
		for _, line := range []string{"crash /", "crash" + strings.Repeat(" 1", 40) + " /", "crash" + strings.Repeat(" 1 0", 20) + " /", "crash" + strings.Repeat(" 1", 40) + " / 0 1 2"} {
			text := script("create a 1 512 -1 -1 0 0", "cut "+itoa(n), "append a 0 7 0 k=v l=w", line, "fetch a 0 0 99")
			plays(t, "P25.1", text, byHand(text))
			left[fmt.Sprint(line == "crash /", strings.HasSuffix(shell.Play(text), "l=w\n"))]++
		}
	}
	for _, x := range []string{"true true", "true false", "false true", "false false"} {
		if left[x] == 0 {
			t.Errorf("no crash (picks are none, the append is left): %s", x)
		}
	}
}

// TestOnce: an append is cut off by the power: behind the crash it is in the log wholly, or not at all; sent again with the same number it is there once.
func TestOnce(t *testing.T) {
	t.Parallel()
	for _, line := range crashes() {
		for n := range 30 {
			text := script("create a 1 512 -1 -1 0 0", "append a 0 7 0 k=v", "cut "+itoa(n), "append a 0 7 1 l=w m=x", line, "fetch a 0 0 999", "append a 0 7 1 l=w m=x", "fetch a 0 0 999", "append a 0 7 1 l=w m=x", "append a 0 7 2 n=y")
			cut := "ok\nok 0 0 1\nerror 9\nok\n"
			done := "ok\nok 0 0 1\nok 1 0 3\nok\n"
			none := "ok 0 1\n0 0 k=v\n"
			whole := "ok 0 3\n0 0 k=v\n1 0 l=w\n2 0 m=x\n"
			behind := "ok 1 0 3\n" + whole + "ok 1 0 3\nok 3 0 4\n"
			if got := shell.Play(text); !slices.Contains([]string{cut + none + behind, cut + whole + behind, done + whole + behind}, got) {
				t.Fatalf("P25.1: cut behind %d ops, %s: an append is not there once: %s", n, brief(line), brief(got))
			}
		}
	}
}
