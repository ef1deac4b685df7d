package shell_test

import (
	"fmt"
	"strings"
	"testing"

	"bollard/api"
)

// draw draws lines. What it keeps is only so that more of them are right than wrong.
type draw struct {
	dice
	seq   map[string]int // of a producer of a partition, the number that comes next
	first int            // connections from here on are open, but for those that were closed
	opens int
	rows  map[int]string // what a connection has to send yet, in digits
	off   int            // lines till the next crash, of a world that is cut
}

func newDraw(seed int) *draw {
	return &draw{dice: dice(seed), seq: map[string]int{}, rows: map[int]string{}}
}

func (x *draw) topic() string {
	if x.below(12) == 0 {
		return pick(&x.dice, "q", "x/y", "#", long(51))
	}
	return pick(&x.dice, "a", "a", "b", "c", "c")
}

func (x *draw) part() int {
	if x.below(12) == 0 {
		return pick(&x.dice, 2, -1, 1<<63-1)
	}
	return pick(&x.dice, 0, 0, 0, 1)
}

func (x *draw) group() string { return pick(&x.dice, "g", "g", "h", "i", "x/y", "-") }

func (x *draw) numbers(most int) (l string) {
	for range x.below(most) {
		l += " " + itoa(pick(&x.dice, 0, 1, 2, 3, x.below(40), -1, -5, 1<<63-1))
	}
	return l
}

func (x *draw) side() string {
	return pick(&x.dice, "k", "k", "l", "l", "m", "", "-", "--", "#", "\x00", "\xff\xfe", "ä", "\r", long(x.below(300)), long(x.below(300)), long(x.below(500)), long(pick(&x.dice, x.below(1000), 1999, 2000, 2001)))
}

func (x *draw) pairs() (l string) {
	for range 1 + x.below(4) {
		l += " " + x.side() + "=" + x.side() + pick(&x.dice, "", "", "", "=", "=-")
	}
	return l
}

// creates is a topic with settings that show.
func (x *draw) creates() string {
	l := []int{pick(&x.dice, 1, 2, 2, 3), pick(&x.dice, 512, 512, 600, 2000, 8192), pick(&x.dice, -1, 0, 1000), pick(&x.dice, -1, 0, 30), pick(&x.dice, 0, 1), pick(&x.dice, 0, 5, 50)}
	if x.below(5) == 0 {
		l[x.below(len(l))] = pick(&x.dice, -2, 9, 1<<60)
	}
	return "create " + x.topic() + " " + strings.Trim(fmt.Sprint(l), "[]")
}

// appends is a batch of nobody's, or of a producer's: the next one, one again, one ahead, one behind.
func (x *draw) appends() string {
	topic, part, producer := x.topic(), x.part(), pick(&x.dice, 0, 0, 0, 1, 2, 3, -1)
	seq := pick(&x.dice, 0, 0, 0, 0, 0, 1)
	if producer > 0 {
		who := fmt.Sprint(topic, " ", part, " ", producer)
		turn := pick(&x.dice, 0, 0, 0, 0, -1, -1, -2, 1, 2)
		if seq = x.seq[who] + turn; turn == 0 {
			x.seq[who]++
		}
	}
	return fmt.Sprintf("append %s %d %d %d%s", topic, part, producer, seq, x.pairs())
}

// request is one that a connection sends.
func (x *draw) request() api.Request {
	r := api.Request{ID: x.below(1 << 32), Topic: x.topic()}
	switch r.Kind = 1 + x.below(8); r.Kind {
	case api.ReqCreate:
		r.Parts, r.Set = 1+x.below(3), api.Settings{Segment: 600, Bytes: -1, Age: -1, Compact: x.below(2) == 0}
	case api.ReqTopics:
		r.Topic = ""
	case api.ReqAppend:
		r.Part, r.Records = x.part(), []api.Record{{HasKey: true, Key: pick(&x.dice, "k", " ", "\n", "-"), Time: x.below(50)}}
	case api.ReqFetch:
		r.Part, r.Offset, r.Max = x.part(), x.below(9), 1+x.below(3000)
	case api.ReqList:
		r.Part, r.Time = x.part(), x.below(60)
	case api.ReqCommit:
		r.Group, r.Part, r.Offset = x.group(), x.part(), x.below(9)
	case api.ReqOffset:
		r.Group, r.Part = x.group(), x.part()
	}
	return r
}

// sends is a piece of what a connection has to send, however it is cut; now and then of one that is not open.
func (x *draw) sends() string {
	if x.opens == x.first && x.below(4) > 0 {
		return x.opened()
	}
	n := x.first + x.below(max(1, x.opens-x.first))
	if x.below(12) == 0 {
		n = x.below(x.opens+2) - 1
	}
	for len(x.rows[n]) < 60 {
		x.rows[n] += pick(&x.dice, asking(x.request()), asking(x.request(), x.request()), asking(x.request()), wrapped(9, 9), wrapped())
		if x.below(60) == 0 {
			x.rows[n] += "00002001"
		}
	}
	size := 2 * (1 + min(pick(&x.dice, x.below(5), x.below(60), x.below(500)), len(x.rows[n])/2-1))
	piece := x.rows[n][:size]
	x.rows[n] = x.rows[n][size:]
	return fmt.Sprintf("send %d %s", n, piece)
}

// opened is another connection.
func (x *draw) opened() string {
	if x.opens-x.first < 16 {
		x.opens++
	}
	return "open"
}

// crash is one. What connections had to send is gone with them.
func (x *draw) crash() string {
	x.rows, x.off, x.first = map[int]string{}, 0, x.opens
	return "crash" + x.numbers(30) + " /" + x.numbers(pick(&x.dice, 1, 1, 3, 25))
}

// cuts lets the power go, and a crash come, soon.
func (x *draw) cuts() string {
	x.off = 1 + x.below(12)
	return "cut " + itoa(pick(&x.dice, x.below(4), x.below(30), x.below(80), -1, -1<<63))
}

// plainLine is a line that has the form of one.
func (x *draw) plainLine() string {
	if x.off > 1 {
		x.off--
	} else if x.off == 1 {
		return x.crash()
	}
	switch n := x.below(100); {
	case n < 6:
		return x.creates()
	case x.below(200) == 0:
		return "delete " + x.topic()
	case n < 32:
		return x.appends()
	case n < 42:
		return fmt.Sprintf("fetch %s %d %d %d", x.topic(), x.part(), pick(&x.dice, 0, 0, 1, 2, x.below(30)-1), pick(&x.dice, 1, 300, 1000, 5000, 0, 1<<63-1))
	case n < 46:
		return fmt.Sprintf("list %s %d %d", x.topic(), x.part(), x.below(90)-5)
	case n < 52:
		return fmt.Sprintf("commit %s %s %d %d", x.group(), x.topic(), x.part(), x.below(12)-1)
	case n < 56:
		return fmt.Sprintf("offset %s %s %d", x.group(), x.topic(), x.part())
	case n < 59:
		return "tick " + itoa(pick(&x.dice, 1, 2, 5, 30, 0, -1))
	case n < 71:
		return fmt.Sprintf("%s %s %d", pick(&x.dice, "retain", "compact"), x.topic(), x.part())
	case n < 77:
		return pick(&x.dice, "tidy", "sweep", "topics")
	case n < 79:
		return x.cuts()
	case n < 80:
		return x.crash()
	case n < 83:
		return x.opened()
	case n < 97:
		return x.sends()
	}
	return pick(&x.dice, "", "#", "# x", "x", " ")
}

// line is one, or, now and then, one that was turned at some place.
func (x *draw) line() string {
	l := x.plainLine()
	if x.below(20) > 0 || l == "" {
		return l
	}
	at := x.below(len(l))
	switch x.below(7) {
	case 0:
		return l[:at] + l[at+1:]
	case 1:
		return l[:at] + " " + l[at:]
	case 2:
		return l[:at] + strings.ToUpper(l[at:at+1]) + l[at+1:]
	case 3:
		return l + pick(&x.dice, "\r", " ", " 0", " x", " k=v", " /")
	case 4:
		return l[:at] + pick(&x.dice, "0", "+", "-", "9", "=", "\t", "\x00", "99999999999999999999") + l[at:]
	case 5:
		return strings.Replace(l, " ", "  ", 1)
	}
	return l[:at]
}

// lines are so many, behind some topics.
func (x *draw) lines(n int) []string {
	l := []string{"create a 2 600 -1 -1 0 0", "create b 2 512 1000 50 0 0", "create c 2 512 -1 -1 1 5", x.opened(), x.opened()}
	for range n {
		l = append(l, x.line())
	}
	return l
}

// TestDrawn: rows of drawn lines, held against a world that is called line by line.
func TestDrawn(t *testing.T) {
	for seed := range 60 {
		t.Run(fmt.Sprint("seed ", seed), func(t *testing.T) {
			t.Parallel()
			lines := newDraw(seed).lines(400)
			level(t, "P25.1", lines)
			plays(t, "P25.1", script(lines...), byHand(script(lines...)))
		})
	}
}
