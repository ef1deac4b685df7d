package shell_test

import (
	"strings"
	"testing"

	"bollard/api"
	"bollard/shell"
)

const tooMuch = "error 2\n"

// TestLines: MaxLines lines are played, one more is not, and the last one may want its end.
func TestLines(t *testing.T) {
	most := api.MaxLines
	for _, x := range []struct {
		what string
		text string
		want string
	}{
		{"the most lines, with an end", strings.Repeat("\n", most), ""},
		{"the most lines, the last one without", strings.Repeat("\n", most-1) + "x", "error 1\n"},
		{"one line less, with an end", strings.Repeat("\n", most-1), ""},
		{"one more, without an end", strings.Repeat("\n", most) + "x", tooMuch},
		{"one more that is no answer's, without an end", strings.Repeat("\n", most) + "#", tooMuch},
		{"one more, with an end", strings.Repeat("\n", most+1), tooMuch},
		{"two more", strings.Repeat("\n", most+1) + "x", tooMuch},
		{"many more", strings.Repeat("\n", api.MaxScript), tooMuch},
		{"many more that are wrong", strings.Repeat("x\n", api.MaxScript/2), tooMuch},
		{"the most, all answered", strings.Repeat("x\n", most), strings.Repeat("error 1\n", most)},
		{"the most, all answered, the last one without an end", strings.Repeat("x\n", most-1) + "x", strings.Repeat("error 1\n", most)},
		{"one more, none answered", strings.Repeat("x\n", most) + "x", tooMuch},
		{"one more, behind right ones", strings.Repeat("topics\n", most) + "topics\n", tooMuch},
		{"the most right ones", strings.Repeat("topics\n", most), strings.Repeat("ok\n", most)},
	} {
		if got := shell.Play(x.text); got != x.want {
			t.Errorf("P25.1: %s: %s, want %s", x.what, brief(got), brief(x.want))
		}
	}
}

// TestBytes: MaxScript bytes are played, one more are not, however few lines they are.
func TestBytes(t *testing.T) {
	most := api.MaxScript
	for _, x := range []struct {
		what string
		text string
		want string
	}{
		{"the most, one line", strings.Repeat("#", most), ""},
		{"the most, with an end", strings.Repeat("#", most-1) + "\n", ""},
		{"the most, one wrong line", strings.Repeat("x", most), "error 1\n"},
		{"the most, blanks alone", strings.Repeat(" ", most), "error 1\n"},
		{"the most, noughts alone", strings.Repeat("\x00", most), "error 1\n"},
		{"the most, a right line at the end", strings.Repeat("#", most-7) + "\ntopics", "ok\n"},
		{"one more", strings.Repeat("#", most+1), tooMuch},
		{"one more, an end", strings.Repeat("#", most) + "\n", tooMuch},
		{"one more, a wrong line", strings.Repeat("x", most+1), tooMuch},
		{"one more, right lines ahead", "topics\n" + strings.Repeat("#", most-6), tooMuch},
		{"twice as many", strings.Repeat("#", 2*most), tooMuch},
		{"too many of both", strings.Repeat("x\n", most), tooMuch},
		{"letters of two bytes: bytes count", strings.Repeat("ä", most/2), "error 1\n"},
		{"one more byte by such letters", strings.Repeat("ä", most/2) + "x", tooMuch},
		{"a great number", "tick " + strings.Repeat("9", most-5), "error 1\n"},
		{"a great topic", "delete " + strings.Repeat("t", most-7), "error 4\n"},
		{"a great key", "create a 1 512 -1 -1 0 0\nappend a 0 0 0 " + strings.Repeat("=", most-41), "ok\nerror 2\n"},
		{"as many records as fit", "create a 1 512 -1 -1 0 0\nappend a 0 0 0" + strings.Repeat(" =", (most-40)/2), "ok\nerror 1\n"},
		{"as many numbers as fit", "crash /" + strings.Repeat(" 0", (most-9)/2) + "\nx", "ok\nerror 1\n"},
		{"as many picks as fit", "crash" + strings.Repeat(" 1", (most-8)/2) + " /", "ok\n"},
		{"as many digits as fit, no request", "open\nsend 0 " + strings.Repeat("00", (most-12)/2), "conn 0\nbytes " + strings.Repeat("0000000600000000000d", (most-12)/8) + "\n"},
	} {
		if got := shell.Play(x.text); got != x.want {
			t.Errorf("P25.1: %s: %s, want %s", x.what, brief(got), brief(x.want))
		}
	}
}
