package shell_test

import (
	"fmt"
	"slices"
	"strings"
	"sync"
	"testing"

	"bollard/api"
	"bollard/shell"
)

// scripts are some of all kinds.
func scripts() []string {
	l := []string{
		"", "\n", "x", "topics", makeALine + "\nappend a 0 0 0 k=v\nfetch a 0 0 100", script(slices.Concat(stock(), looks())...), script(slices.Concat(stock(), looks(), crashes()[1:5], looks())...), script(slices.Concat(stock(), right(), looks())...),
		script(slices.Concat(stock(), []string{"cut 0"}, looks(), []string{"crash 1 0 / 1 2"}, looks())...), script(others()...),
	}
	for seed := range 6 {
		l = append(l, script(newDraw(1000+seed).lines(70)...))
	}
	return l
}

// TestAgain: the same text answers the same, once more, by turns with others, and beside others.
func TestAgain(t *testing.T) {
	t.Parallel()
	l := scripts()
	first := make([]string, len(l))
	for i, text := range l {
		first[i] = shell.Play(text)
	}
	for i, text := range l {
		for _, other := range []string{text, l[(i+1)%len(l)], "cut 0\ntopics\ntick 5\ndelete a", strings.Repeat("open\n", 20), strings.Repeat("x", api.MaxScript+1)} {
			shell.Play(other)
			if got := shell.Play(strings.Clone(text)); got != first[i] {
				t.Fatalf("P25.2: behind %s, %s answers %s, want %s", brief(other), brief(text), brief(got), brief(first[i]))
			}
		}
	}
	var all sync.WaitGroup
	beside := make([]string, 4*len(l))
	for i := range beside {
		all.Go(func() { beside[i] = shell.Play(l[i%len(l)]) })
	}
	all.Wait()
	for i, got := range beside {
		if got != first[i%len(l)] {
			t.Fatalf("P25.2: beside others, %s answers %s, want %s", brief(l[i%len(l)]), brief(got), brief(first[i%len(l)]))
		}
	}
}

// TestCutOff: a script that is cut at any of its lines answers what these answer, with and without the last end; what stands behind answers the rest.
func TestCutOff(t *testing.T) {
	for i, text := range scripts() {
		t.Run(fmt.Sprint("script ", i), func(t *testing.T) {
			t.Parallel()
			whole := shell.Play(text)
			lines := linesOf(text)
			told := byHand(text)
			for n := range len(lines) + 1 {
				want := strings.Join(told[:n], "")
				begun := script(lines[:n]...)
				for _, some := range []string{begun, strings.TrimSuffix(begun, "\n")} {
					if got := shell.Play(some); got != want || !strings.HasPrefix(whole, got) {
						t.Fatalf("P25.3: the first %d lines answer %s, want %s", n, brief(got), brief(want))
					}
				}
				if rest := strings.Join(told[n:], ""); whole != want+rest {
					t.Fatalf("P25.3: behind the first %d lines the others answer %s, want %s", n, brief(strings.TrimPrefix(whole, want)), brief(rest))
				}
			}
		})
	}
}

// TestMostLines: the beginnings of a script that has as many lines as there may be, and of one that has more: that one has no answers but one.
func TestMostLines(t *testing.T) {
	lines := many(api.MaxLines-4, "#")
	for i, line := range []string{makeALine, "append a 0 0 0 k=v", "fetch a 0 0 9", "x"} {
		lines = slices.Insert(lines, i*3000, line)
	}
	told := "ok\nok 0 0 1\nok 0 1\n0 0 k=v\nerror 1\n"
	if got := shell.Play(script(lines...)); got != told {
		t.Errorf("P25.3: %d lines answer %s, want %s", len(lines), brief(got), brief(told))
	}
	for n := 0; n <= len(lines); n += 500 {
		if got := shell.Play(script(lines[:n]...)); !strings.HasPrefix(told, got) {
			t.Errorf("P25.3: %d of the lines answer %s, and all %s", n, brief(got), brief(told))
		}
	}
	if got := shell.Play(script(append(lines, "#")...)); got != tooMuch {
		t.Errorf("P25.1: %d lines answer %s, want %s", len(lines)+1, brief(got), brief(tooMuch))
	}
}
