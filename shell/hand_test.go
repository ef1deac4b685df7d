package shell_test

import (
	"encoding/hex"
	"fmt"
	"regexp"
	"strconv"
	"strings"

	"bollard/api"
	"bollard/world"
)

// hand plays scripts by hand: lines are told by patterns, and a world of chapter 23 is called for each.
type hand struct {
	w     *world.World
	asked int
	found bool // the last line was one
}

func newHand() *hand {
	w, e := world.New(3000, 300)
	if e != api.OK {
		panic(fmt.Sprint("P23.1: New(3000, 300) = ", e))
	}
	return &hand{w: w}
}

// handOf has played some lines.
func handOf(lines []string) *hand {
	h := newHand()
	for _, line := range lines {
		h.answer(line)
	}
	return h
}

// row is a row of the chapter's table: W a word, N a number, B 0 or 1, X hexadecimal digits by twos, P a pair; what is in the braces may come as often as it likes.
type row struct {
	form string
	does func(h *hand, f []string) string
}

// table is the chapter's.
func table() []row {
	return []row{
		{`create W N N N N B N`, func(h *hand, f []string) string {
			set := api.Settings{Segment: num(f[2]), Bytes: num(f[3]), Age: num(f[4]), Compact: f[5] == "1", Delay: num(f[6])}
			return h.asks(api.Request{Kind: 1, Topic: f[0], Parts: num(f[1]), Set: set})
		}},
		{`delete W`, func(h *hand, f []string) string { return h.asks(api.Request{Kind: 2, Topic: f[0]}) }},
		{`topics`, func(h *hand, f []string) string { return h.asks(api.Request{Kind: 3}) }},
		{`append W N N N{ P}+`, func(h *hand, f []string) string {
			r := api.Request{Kind: 4, Topic: f[0], Part: num(f[1]), Producer: num(f[2]), Seq: num(f[3])}
			for _, pair := range words(f[4]) {
				r.Records = append(r.Records, recordOf(pair, h.w.Now()))
			}
			return h.asks(r)
		}},
		{`fetch W N N N`, func(h *hand, f []string) string {
			return h.asks(api.Request{Kind: 5, Topic: f[0], Part: num(f[1]), Offset: num(f[2]), Max: num(f[3])})
		}},
		{`list W N N`, func(h *hand, f []string) string {
			return h.asks(api.Request{Kind: 6, Topic: f[0], Part: num(f[1]), Time: num(f[2])})
		}},
		{`commit W W N N`, func(h *hand, f []string) string {
			return h.asks(api.Request{Kind: 7, Group: f[0], Topic: f[1], Part: num(f[2]), Offset: num(f[3])})
		}},
		{`offset W W N`, func(h *hand, f []string) string {
			return h.asks(api.Request{Kind: 8, Group: f[0], Topic: f[1], Part: num(f[2])})
		}},
		{`tick N`, func(h *hand, f []string) string { h.w.Tick(num(f[0])); return "" }},
		{`cut N`, func(h *hand, f []string) string { h.w.Cut(num(f[0])); return "" }},
		{`retain W N`, func(h *hand, f []string) string { return h.steps(1, f[0], num(f[1])) }},
		{`compact W N`, func(h *hand, f []string) string { return h.steps(2, f[0], num(f[1])) }},
		{`tidy`, func(h *hand, f []string) string { return h.steps(3, "", 0) }},
		{`sweep`, func(h *hand, f []string) string { return h.steps(4, "", 0) }},
		{`crash{ N}* /{ N}*`, func(h *hand, f []string) string { return code(h.w.Crash(nums(f[0]), nums(f[1])), "ok\n") }},
		{`open`, func(h *hand, f []string) string {
			n, e := h.w.Open()
			return code(e, fmt.Sprintln("conn", n))
		}},
		{`send N X`, func(h *hand, f []string) string {
			b, err := hex.DecodeString(f[1])
			if err != nil {
				panic(err)
			}
			told, e := h.w.Feed(num(f[0]), b)
			return code(e, strings.TrimRight(fmt.Sprintf("bytes %x", told), " ")+"\n")
		}},
		{`(?:#.*)?`, func(h *hand, f []string) string { return "" }},
	}
}

// patterns are the table's forms as patterns.
var patterns = func() (l []*regexp.Regexp) {
	for _, x := range table() {
		form := x.form
		for _, p := range [][2]string{
			{` `, `\x20`}, {`W`, `([^ ]+)`}, {`B`, `([01])`}, {`X`, `((?:[0-9a-f][0-9a-f])+)`}, {`N}`, `(?:0|-?[1-9][0-9]*)}`},
			{`N`, `(0|-?[1-9][0-9]*)`}, {`P`, `[^ =]*=[^ ]*`}, {`{`, `((?:`}, {`}+`, `)+)`}, {`}*`, `)*)`},
		} {
			form = strings.ReplaceAll(form, p[0], p[1])
		}
		l = append(l, regexp.MustCompile(`\A(?s:`+form+`)\z`))
	}
	return l
}()

// answer is what a line answers.
func (h *hand) answer(line string) string {
	for i, x := range table() {
		if f := patterns[i].FindStringSubmatch(line); f != nil {
			if beyond(x.form, f[1:]) {
				break
			}
			h.found = true
			return x.does(h, f[1:])
		}
	}
	h.found = false
	return "error 1\n"
}

// beyond is whether a number of the line is no int.
func beyond(form string, f []string) bool {
	for i, kind := range regexp.MustCompile(`[A-Z]`).FindAllString(form, -1) {
		if kind != "N" {
			continue
		}
		for _, w := range words(f[i]) {
			if _, err := strconv.ParseInt(w, 10, 64); err != nil {
				return true
			}
		}
	}
	return false
}

// words are what blanks part, and nothing else does.
func words(row string) []string {
	return strings.FieldsFunc(row, func(c rune) bool { return c == ' ' })
}

// num is a number that is an int.
func num(w string) int {
	n, err := strconv.ParseInt(w, 10, 64)
	if err != nil {
		panic(err)
	}
	return int(n)
}

func nums(row string) (l []int) {
	for _, w := range words(row) {
		l = append(l, num(w))
	}
	return l
}

// recordOf is a pair's record.
func recordOf(pair string, now int) api.Record {
	at := strings.Index(pair, "=")
	r := api.Record{HasKey: true, Key: pair[:at], HasVal: true, Val: pair[at+1:], Time: now}
	if r.Key == "-" {
		r.HasKey, r.Key = false, ""
	}
	if r.Val == "-" {
		r.HasVal, r.Val = false, ""
	}
	return r
}

// code is a line of an error, or else what is right.
func code(e api.Errno, right string) string {
	if e != api.OK {
		return fmt.Sprintln("error", int(e))
	}
	return right
}

// steps is a step's answer.
func (h *hand) steps(kind int, topic string, part int) string {
	done, e := h.w.Step(kind, topic, part)
	return code(e, fmt.Sprintln(done))
}

// asks is a request's answer.
func (h *hand) asks(r api.Request) string {
	r.ID = h.asked
	h.asked++
	a := h.w.Do(r)
	var right string
	switch r.Kind {
	case 1, 2, 7:
		right = "ok\n"
	case 3:
		right = "ok\n"
		for i, name := range a.Topics {
			right += fmt.Sprintf("topic %s %d\n", name, a.Parts[i])
		}
	case 4, 6:
		right = fmt.Sprintf("ok %d %d %d\n", a.Offset, a.Start, a.Next)
	case 5:
		right = fmt.Sprintf("ok %d %d\n", a.Start, a.Next)
		for _, b := range a.Batches {
			for _, r := range b.Records {
				right += fmt.Sprintf("%d %d %s\n", b.Base+r.Off, r.Time, pairOf(r))
			}
		}
	case 8:
		right = fmt.Sprintf("ok %d\n", a.Offset)
	}
	return code(a.Code, right)
}

// pairOf is a record's pair.
func pairOf(r api.Record) string {
	key, val := "-", "-"
	if r.HasKey {
		key = r.Key
	}
	if r.HasVal {
		val = r.Val
	}
	return key + "=" + val
}

// linesOf is a script's lines.
func linesOf(script string) []string {
	l := strings.Split(script, "\n")
	if l[len(l)-1] == "" {
		l = l[:len(l)-1]
	}
	return l
}

// byHand is what each line of a script answers.
func byHand(script string) []string {
	h := newHand()
	l := linesOf(script)
	for i, line := range l {
		l[i] = h.answer(line)
	}
	return l
}
