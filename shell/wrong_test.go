package shell_test

import (
	"slices"
	"strings"
	"testing"

	"bollard/api"
	"bollard/shell"
)

// right is a right line of each row of the table: behind the stock each does or tells something. Its number words are those that may be turned.
func right() []string {
	return []string{
		"create d 2 600 1000 70 1 5", "delete a", "commit g a 0 9", "topics", "append a 1 9 0 k=v", "fetch a 0 1 100", "list a 0 40", "offset g a 0", "tick 7",
		"retain c 0", "compact c 0", "tidy", "sweep", "cut 3", "crash 1 / 2", "open", "send 1 0000",
	}
}

// isNumber is whether a word of a right line is a number: HEX is none.
func isNumber(words []string, i int) bool {
	return i > 0 && strings.Trim(words[i], "0123456789") == "" && !(words[0] == "send" && i == 2)
}

// endsInText is whether the last word of a line is one that may be any.
func endsInText(line string) bool {
	return strings.HasPrefix(line, "delete ") || strings.HasPrefix(line, "append ")
}

// turned is words with one of them turned.
func turned(words []string, i int, w string) string {
	l := slices.Clone(words)
	l[i] = w
	return strings.Join(l, " ")
}

// blanks are all lines with a blank too many, or another sign in its place.
func blanks(line string) []string {
	l := []string{" " + line, line + " ", "  " + line, line + "  ", " " + line + " "}
	for i := range line {
		if line[i] != ' ' {
			continue
		}
		for _, gap := range []string{"  ", "   ", "\t", "", "\u00a0", ",", "\x00"} {
			l = append(l, line[:i]+gap+line[i+1:])
		}
	}
	return l
}

// counts are all lines with a word too few, and with one too many.
func counts(line string) (l []string) {
	words := strings.Split(line, " ")
	for i := range words {
		without := slices.Delete(slices.Clone(words), i, i+1)
		// A crash may have any numbers of both.
		if words[0] != "crash" || words[i] == "/" || i == 0 {
			l = append(l, strings.Join(without, " "))
		}
		for n := i; n > 0 && words[0] != "crash"; n-- {
			l = append(l, strings.Join(words[:n], " "))
		}
	}
	for _, more := range []string{"x", "/", "-", "#", "00"} {
		l = append(l, line+" "+more)
	}
	if words[0] != "crash" {
		l = append(l, line+" 0", line+" 1", line+" "+line)
	}
	return l
}

// letters are all lines with a great letter in the command, and of commands that are none.
func letters(line string) (l []string) {
	command, rest, _ := strings.Cut(line, " ")
	if rest != "" {
		rest = " " + rest
	}
	for i := range command {
		l = append(l, command[:i]+strings.ToUpper(command[i:i+1])+command[i+1:]+rest, command[:i]+command[i+1:]+rest, command[:i]+"s"+command[i:]+rest, command[:i+1]+" "+command[i+1:]+rest)
	}
	return append(l, strings.ToUpper(command)+rest, command+"s"+rest, "s"+command+rest, command+"\x00"+rest, "\""+command+"\""+rest, command+";"+rest)
}

// ends are all lines with something at their end that does not stand there.
func ends(line string) (l []string) {
	for _, more := range []string{"\r", "\t", "\v", "\f", "\x00", "\xff", "\u0085", "\u2028", ";"} {
		if !endsInText(line) {
			l = append(l, line+more)
		}
		l = append(l, more+line)
	}
	return l
}

// numbers are all lines with a number in a form that it has not.
func numbers(line string) (l []string) {
	words := strings.Split(line, " ")
	for i, w := range words {
		if !isNumber(words, i) {
			continue
		}
		for _, n := range []string{
			"0" + w, "00" + w, "+" + w, "-0", "-00", "-0" + w, "--" + w, "+-" + w, "-+" + w, "-", "+", "-x", w + "-", w + "x", "x" + w, w + ".0", w + "e0", "0x" + w, "0b1", "0o1", "1_0", "0_0", "1,0", "a", "A", "\u0663", "\uff11", "\xff", "'1'", "NaN",
			"9223372036854775808", "-9223372036854775809", "09223372036854775807", "18446744073709551616", "18446744073709551615", "-18446744073709551616", long(30), strings.Repeat("9", 100), "1" + strings.Repeat("0", 64), "-" + strings.Repeat("1", 40),
		} {
			l = append(l, turned(words, i, n))
		}
	}
	return l
}

// others are lines that are wrong by themselves.
func others() []string {
	return []string{
		" ", "  ", " #", "  #", "x", "-", "/", "0", "=", "k=v", "ok", "error 1", "conn 0", "\r", "\t", "\x00", "\xff", "help", "quit", "commit", "step 1 a 0", "now", "free", "ops", "do", "feed 0 00", "close 0",
		"create d 1 600 -1 -1 2 0", "create d 1 600 -1 -1 -1 0", "create d 1 600 -1 -1 true 0", "create d 1 600 -1 -1 x 0", "create d 1 600 -1 -1 10 0", "create d 1 600 -1 -1 00 0",
		"append a 0 0 0 kv", "append a 0 0 0 k=v kv", "append a 0 0 0 kv k=v", "append a 0 0 0 k=v -", "append a 0 0 0 -", "append a 0 0 0 - k=v", "append a 0 0 0 k=v  l=w", "append a 0 0 0 k=v ", "append a 0 0 0  k=v", "append a 0 0 k=v", "append a 0 k=v", "append a k=v", "append k=v", "append a 0 0 0 k v",
		"crash", "crash 1", "crash 1 2", "crash x / 1", "crash 1 / x", "crash / /", "crash / / 1", "crash 1 / 2 / 3", "crash //", "crash 1/2", "crash 1 /2", "crash 1/ 2", "crash \\", "crash /  1", "crash 1  /", "crash / ", " crash /", "crash  /", "crash -0 / 1", "crash 1 / 01", "crash / +1", "crash 9223372036854775808 /", "crash / -9223372036854775809", "crash 1 |", "Crash /", "crash / 1 x",
		"send 1 0", "send 1 000", "send 1 0g", "send 1 g0", "send 1 AA", "send 1 aA", "send 1 Aa", "send 1 0x00", "send 1 00 00", "send 1 0 0", "send 1 -1", "send 1 zz", "send 1 00\x00", "send 1 0\xff", "send 1 \u0660\u0660", "send 1 :0", "send 1 /0", "send 1 `0", "send 1 0G", "send 1 ", "send 1", "send", "send x 00", "send 00 1", "send 01 00", "send -0 00", "send 1 00,00",
	}
}

// wrongLines are all of these.
func wrongLines() (l []string) {
	for _, line := range right() {
		for _, of := range []func(string) []string{blanks, counts, letters, ends, numbers} {
			l = append(l, of(line)...)
		}
	}
	l = append(l, others()...)
	return slices.DeleteFunc(l, func(line string) bool { return line == "" })
}

// TestWrong: what is no line answers error 1, and nothing has changed.
func TestWrong(t *testing.T) {
	p := shell.Begun()
	for _, line := range stock() {
		p.Answer(line)
	}
	was := state(p.Asked(), p.World())
	for _, line := range wrongLines() {
		if got := p.Answer(line); got != "error 1\n" {
			t.Fatalf("P25.1: %q answers %q, want error 1", line, got)
		}
		if got := state(p.Asked(), p.World()); got != was {
			t.Fatalf("P25.1: behind %q, which is no line: %s, want %s", line, got, was)
		}
	}
	h := handOf(stock())
	for _, line := range looks() {
		if got, want := p.Answer(line), h.answer(line); got != want {
			t.Fatalf("P25.1: behind what is no line %s answers %s, want %s", brief(line), brief(got), brief(want))
		}
	}
}

// TestWrongBefore: what is no line, and behind it the line that it was made of, which does what it always did. The request's ID is the next one.
func TestWrongBefore(t *testing.T) {
	for _, line := range right() {
		t.Run(line, func(t *testing.T) {
			t.Parallel()
			var wrong []string
			for _, of := range []func(string) []string{blanks, counts, letters, ends, numbers} {
				wrong = append(wrong, of(line)...)
			}
			wrong = slices.DeleteFunc(wrong, func(line string) bool { return line == "" })
			all := slices.Concat(stock(), wrong, []string{line}, wrong, []string{"open"}, looks())
			plays(t, "P25.1", script(all...), byHand(script(all...)))
			told := strings.ReplaceAll(shell.Play(script(all...)), "error 1\n", "")
			if plain := slices.Concat(stock(), []string{line, "open"}, looks()); told != strings.ReplaceAll(shell.Play(script(plain...)), "error 1\n", "") {
				t.Errorf("P25.1: lines that are none changed what the others answer: %s", brief(told))
			}
		})
	}
}

// TestRight: the lines that are turned here are right ones, and each of them changes or tells something.
func TestRight(t *testing.T) {
	for _, line := range right() {
		h := handOf(stock())
		told := h.answer(line)
		if told == "error 1\n" {
			t.Errorf("%q is wrong from the beginning", line)
		}
		with := append(append(stock(), line, "open"), looks()...)
		without := append(append(stock(), "open"), looks()...)
		if told == "" && shell.Play(script(with...)) == shell.Play(script(without...)) {
			t.Errorf("%q changes nothing", line)
		}
	}
}

// TestNumbers: each number may be any int; one beyond is none.
func TestNumbers(t *testing.T) {
	t.Parallel()
	edges := []string{"9223372036854775807", "-9223372036854775808", "9223372036854775806", "-9223372036854775807", "0", "-1", "1", "10", "-10", "2147483648", "-2147483649", "4294967296", "1125899906842625", "100"}
	for _, line := range append(right(), "crash 1 0 2 / 2 3 1") {
		words := strings.Split(line, " ")
		for i := range words {
			if !isNumber(words, i) {
				continue
			}
			for _, n := range edges {
				p, h := shell.Begun(), newHand()
				for _, line := range append(stock(), turned(words, i, n)) {
					got, want := p.Answer(line), h.answer(line)
					if got != want || p.Asked() != h.asked {
						t.Fatalf("P25.1: %s answers %s, want %s; the next request is %d, want %d", brief(line), brief(got), brief(want), p.Asked(), h.asked)
					}
				}
				// COMPACT is 0 or 1; all other numbers are any.
				if isFlag := words[0] == "create" && i == 6; h.found != (!isFlag || n == "0" || n == "1") {
					t.Fatalf("P25.1: by hand %q is found: %v", turned(words, i, n), h.found)
				}
			}
		}
	}
}

// TestIDs: requests have the IDs 0, 1, .. in order, whatever is answered, whatever crashes; other lines have none.
func TestIDs(t *testing.T) {
	t.Parallel()
	p := shell.Begun()
	want := 0
	for _, line := range append(slices.Concat(stock(), wrongLines(), right(), looks()), "cut 0", "topics", "delete a", "crash /", "topics", "delete a") {
		was := p.Asked()
		h := handOf(nil)
		h.answer(line)
		want += h.asked
		if p.Answer(line); p.Asked() != want {
			t.Fatalf("P25.1: behind %s the next request is %d, want %d", brief(line), p.Asked(), want)
		}
		if p.Asked() > was+1 {
			t.Fatalf("P25.1: %s takes %d IDs", brief(line), p.Asked()-was)
		}
	}
	p = shell.Begun()
	for id, r := range []api.Request{{Kind: api.ReqTopics}, {Kind: api.ReqDelete, Topic: "a"}, {Kind: 9}, {Kind: api.ReqTopics, ID: 77}} {
		if told := p.Ask(r); told.ID != id || told.Kind != r.Kind {
			t.Fatalf("P25.1: the request %d was asked as %d", id, told.ID)
		}
	}
}

// TestByte13: where the last word may be any it is a part of it; elsewhere the line is none.
func TestByte13(t *testing.T) {
	scene(t, "P25.1", "create a 1 1000 -1 -1 0 0\r -> error 1", "create a\r 1 1000 -1 -1 0 0 -> ok", "topics\r -> error 1", "topics -> ok / topic a\r 1", "delete a -> error 4", "append a\r 0 0 0 k=v\r -> ok 0 0 1", "fetch a\r 0 0 9 -> ok 0 1 / 0 0 k=v\r", "fetch a\r 0 0 9\r -> error 1", "\r -> error 1", "#\r ->", "delete a\r -> ok", "delete a\r -> error 4")
}
