package shell_test

import (
	"fmt"
	"strings"
	"testing"

	"bollard/shell"
)

const (
	makeA     = makeALine + " -> ok"
	makeALine = "create a 1 1000 -1 -1 0 0"
)

func TestExamples(t *testing.T) {
	scene(t, "P25.1", makeA, "append a 0 0 0 k=v -> ok 0 0 1", "fetch a 0 0 100 -> ok 0 1 / 0 0 k=v")
	scene(t, "P25.1", "fetch a 0 0 100 -> error 4")
	if got := shell.Play("create a 1 1000 -1 -1 0 0\nappend a 0 0 0 k=v\nfetch a 0 0 100"); got != "ok\nok 0 0 1\nok 0 1\n0 0 k=v\n" {
		t.Errorf("P25.1: the chapter's example answers %q", got)
	}
}

// TestNothing: the empty line and one that begins with # answer nothing, and do nothing.
func TestNothing(t *testing.T) {
	scene(t, "P25.1", " ->", "# ->", "#create a 1 1000 -1 -1 0 0 ->", "## ->", "#  two  blanks  ->", "topics -> ok", " ->", makeA, "#delete a ->", "# cut 0 ->", "topics -> ok / topic a 1")
	for _, text := range []string{"", "\n", "\n\n\n", "#", "#\n", "#x\n\n#y", "# \xff\x00"} {
		if got := shell.Play(text); got != "" {
			t.Errorf("P25.1: Play(%q) = %q, want nothing", text, got)
		}
	}
}

func TestCreate(t *testing.T) {
	scene(t, "P25.1",
		"create a 1 512 -1 -1 0 0 -> ok", "create b 8 8192 1099511627776 1125899906842624 1 1125899906842624 -> ok", "create "+long(50)+" 3 600 0 0 0 7 -> ok",
		"create a 1 512 -1 -1 0 0 -> error 5", "create a 8 600 0 0 1 7 -> error 5",
		"create "+long(51)+" 1 512 -1 -1 0 0 -> error 1", "create x/y 1 512 -1 -1 0 0 -> error 1", "create . 1 512 -1 -1 0 0 -> error 1", "create .. 1 512 -1 -1 0 0 -> error 1", "create x\x00 1 512 -1 -1 0 0 -> error 1",
		"create d 0 512 -1 -1 0 0 -> error 1", "create d 9 512 -1 -1 0 0 -> error 1", "create d -1 512 -1 -1 0 0 -> error 1", "create a 0 512 -1 -1 0 0 -> error 1",
		"create d 1 511 -1 -1 0 0 -> error 1", "create d 1 8193 -1 -1 0 0 -> error 1", "create d 1 512 -2 -1 0 0 -> error 1", "create d 1 512 1099511627777 -1 0 0 -> error 1",
		"create d 1 512 -1 -2 0 0 -> error 1", "create d 1 512 -1 1125899906842625 0 0 -> error 1", "create d 1 512 -1 -1 0 -1 -> error 1", "create d 1 512 -1 -1 0 1125899906842625 -> error 1",
		"create d 1 512 -1 -1 2 0 -> error 1", "create d 1 512 -1 -1 -1 0 -> error 1", "create d 1 512 -1 -1 x 0 -> error 1",
		"topics -> ok / topic a 1 / topic b 8 / topic "+long(50)+" 3",
	)
}

// TestCreateMany: 20 topics, and no more.
func TestCreateMany(t *testing.T) {
	var rows []string
	told := "ok"
	for i := range 20 {
		rows = append(rows, fmt.Sprintf("create t%02d 1 512 -1 -1 0 0 -> ok", i))
		told += fmt.Sprintf(" / topic t%02d 1", i)
	}
	rows = append(rows, "create u 1 512 -1 -1 0 0 -> error 2", "create t05 1 512 -1 -1 0 0 -> error 5", "topics -> "+told, "delete t00 -> ok", "create u 1 512 -1 -1 0 0 -> ok")
	scene(t, "P25.1", rows...)
}

// TestSettings: each of a topic's settings does what it says, at the place where it stands.
func TestSettings(t *testing.T) {
	fill := func(name string) []string {
		return []string{"append " + name + " 0 0 0 k=" + long(400) + " -> ok 0 0 1", "append " + name + " 0 0 0 k=" + long(400) + " -> ok 1 0 2", "append " + name + " 0 0 0 k=" + long(400) + " -> ok 2 0 3"}
	}
	whole := func(name string) string {
		return "fetch " + name + " 0 0 9999 -> ok 0 3 / 0 0 k=" + long(400) + " / 1 0 k=" + long(400) + " / 2 0 k=" + long(400)
	}
	t.Run("Segment", func(t *testing.T) {
		scene(t, "P25.1", append(append([]string{"create a 1 8192 0 0 1 0 -> ok"}, fill("a")...), "tick 9 ->", "retain a 0 -> false", "compact a 0 -> false", whole("a"))...)
	})
	t.Run("Bytes", func(t *testing.T) {
		scene(t, "P25.1", append(append([]string{"create a 1 512 700 -1 0 0 -> ok"}, fill("a")...), "tick 9 ->", "retain a 0 -> true", "retain a 0 -> false", "list a 0 0 -> ok 1 1 3")...)
	})
	t.Run("Age", func(t *testing.T) {
		scene(t, "P25.1", append(append([]string{"create a 1 512 -1 8 0 0 -> ok"}, fill("a")...), "tick 8 ->", "retain a 0 -> false", "tick 1 ->", "retain a 0 -> true", "retain a 0 -> true", "retain a 0 -> false", "list a 0 0 -> ok 2 2 3")...)
	})
	t.Run("Compact", func(t *testing.T) {
		scene(t, "P25.1", append(append([]string{"create a 1 512 -1 -1 1 0 -> ok"}, fill("a")...), "compact a 0 -> true", "compact a 0 -> true", "compact a 0 -> false", "fetch a 0 0 9999 -> ok 0 3 / 2 0 k="+long(400))...)
		scene(t, "P25.1", append(append([]string{"create a 1 512 -1 -1 0 0 -> ok"}, fill("a")...), "compact a 0 -> false", whole("a"))...)
	})
	t.Run("Delay", func(t *testing.T) {
		scene(t, "P25.1", "create a 1 512 -1 -1 1 5 -> ok", "append a 0 0 0 k=- -> ok 0 0 1", "append a 0 0 0 l="+long(500)+" -> ok 1 0 2", "tick 5 ->", "compact a 0 -> false", "tick 1 ->", "compact a 0 -> true", "fetch a 0 0 9999 -> ok 0 2 / 1 0 l="+long(500))
	})
}

func TestDelete(t *testing.T) {
	scene(t, "P25.1", "delete a -> error 4", makeA, "append a 0 7 0 k=v -> ok 0 0 1", "commit g a 0 1 -> ok", "delete b -> error 4", "delete a -> ok", "delete a -> error 4", "delete "+long(51)+" -> error 4", "delete x/y -> error 4", "topics -> ok",
		// One that is created again is empty, and its committed offsets are gone.
		makeA, "fetch a 0 0 9 -> ok 0 0", "offset g a 0 -> error 4", "append a 0 7 0 k=v -> ok 0 0 1")
}

func TestTopics(t *testing.T) {
	scene(t, "P25.1", "topics -> ok", "create b 3 512 0 0 1 5 -> ok", makeA, "create B 2 512 0 0 0 0 -> ok", "create \xff\xfe 1 512 0 0 0 0 -> ok", "create # 1 512 0 0 0 0 -> ok", "topics -> ok / topic # 1 / topic B 2 / topic a 1 / topic b 3 / topic \xff\xfe 1", "delete a -> ok", "topics -> ok / topic # 1 / topic B 2 / topic b 3 / topic \xff\xfe 1")
}

func TestAppend(t *testing.T) {
	scene(t, "P25.1", makeA, "create c 2 512 -1 -1 1 0 -> ok",
		"append a 0 0 0 k=v -> ok 0 0 1", "append a 0 0 0 k=v l=w m=x -> ok 1 0 4", "append c 1 0 0 k=v -> ok 0 0 1", "append c 0 0 0 k=- -> ok 0 0 1",
		"append q 0 0 0 k=v -> error 4", "append a 1 0 0 k=v -> error 4", "append a -1 0 0 k=v -> error 4", "append c 2 0 0 k=v -> error 4", "append q -1 -1 -1 k=v -> error 4",
		"append a 0 -1 0 k=v -> error 1", "append a 0 0 1 k=v -> error 1", "append a 0 0 -1 k=v -> error 1", "append a 0 1 -1 k=v -> error 1",
		"append c 0 0 0 -=v -> error 1", "append c 0 0 0 k=v -=v -> error 1", "append a 0 0 0 -=v -> ok 4 0 5",
		"append a 0 0 0 k="+long(2001)+" -> error 2", "append a 0 0 0 "+long(2001)+"=v -> error 2", "append a 0 0 0"+strings.Repeat(" k="+long(1999), 3)+" -> error 2", "append a 0 0 0"+strings.Repeat(" =", 101)+" -> error 1",
		"append a 0 0 0"+strings.Repeat(" =", 100)+" -> ok 5 0 105", "append a 0 0 0 "+long(2000)+"="+long(2000)+" -> ok 105 0 106", "list a 0 0 -> ok 0 0 106",
	)
}

func TestProducers(t *testing.T) {
	scene(t, "P25.1", makeA, "create c 2 512 -1 -1 1 0 -> ok",
		"append a 0 7 1 k=v -> error 11", "append a 0 7 0 k=v l=w -> ok 0 0 2", "append a 0 7 0 k=v l=w -> ok 0 0 2", "append a 0 7 0 other=other -> ok 0 0 2", "append a 0 7 2 k=v -> error 11",
		"append a 0 7 1 k=w -> ok 2 0 3", "append a 0 8 0 x=y -> ok 3 0 4", "append a 0 7 1 k=w -> ok 2 0 4", "append a 0 7 0 k=v -> error 11", "append a 0 7 3 k=v -> error 11", "append a 0 7 9223372036854775807 k=v -> error 11",
		"append c 0 7 1 k=v -> error 11", "append c 0 7 0 k=v -> ok 0 0 1", "append c 1 7 0 k=v -> ok 0 0 1", "append c 0 7 0 -=v -> error 1", "append a 0 9223372036854775807 0 k=v -> ok 4 0 5", "append a 0 9223372036854775807 1 k=v -> ok 5 0 6",
		"append a 0 7 2 k="+long(2001)+" -> error 2", "append a 0 7 2 k=z -> ok 6 0 7", "fetch a 0 0 9999 -> ok 0 7 / 0 0 k=v / 1 0 l=w / 2 0 k=w / 3 0 x=y / 4 0 k=v / 5 0 k=v / 6 0 k=z",
	)
}

// TestProducersMany: a partition knows 60 of them, and no more.
func TestProducersMany(t *testing.T) {
	rows := []string{makeA}
	for i := range 60 {
		rows = append(rows, fmt.Sprintf("append a 0 %d 0 = -> ok %d 0 %d", i+1, i, i+1))
	}
	scene(t, "P25.1", append(rows, "append a 0 61 0 = -> error 2", "append a 0 61 1 = -> error 2", "append a 0 60 1 = -> ok 60 0 61", "append a 0 0 0 = -> ok 61 0 62")...)
}

func TestFetch(t *testing.T) {
	scene(t, "P25.1", makeA, "fetch a 0 0 1 -> ok 0 0", "append a 0 0 0 k=v l=w -> ok 0 0 2", "tick 3 ->", "append a 0 0 0 m=x -> ok 2 0 3", "append a 0 0 0 n="+long(300)+" -> ok 3 0 4",
		"fetch a 0 0 1 -> ok 0 4 / 0 0 k=v / 1 0 l=w", "fetch a 0 1 1 -> ok 0 4 / 0 0 k=v / 1 0 l=w", "fetch a 0 2 1 -> ok 0 4 / 2 3 m=x", "fetch a 0 1 200 -> ok 0 4 / 0 0 k=v / 1 0 l=w / 2 3 m=x",
		"fetch a 0 0 9223372036854775807 -> ok 0 4 / 0 0 k=v / 1 0 l=w / 2 3 m=x / 3 3 n="+long(300), "fetch a 0 4 9 -> ok 0 4", "fetch a 0 5 9 -> error 12", "fetch a 0 -1 9 -> error 12",
		"fetch a 0 0 0 -> error 1", "fetch a 0 0 -1 -> error 1", "fetch a 0 9 0 -> error 1", "fetch q 0 0 1 -> error 4", "fetch a 1 0 1 -> error 4", "fetch a -1 0 0 -> error 4", "fetch "+long(51)+" 0 0 1 -> error 4")
}

// TestFetchGone: what retention took is no offset any more, and what compaction took is not told.
func TestFetchGone(t *testing.T) {
	scene(t, "P25.1", "create a 1 512 0 -1 1 0 -> ok", "append a 0 0 0 k=1 l=2 k=3 -> ok 0 0 3", "append a 0 0 0 m="+long(450)+" -> ok 3 0 4", "compact a 0 -> true", "compact a 0 -> false",
		"fetch a 0 0 1 -> ok 0 4 / 1 0 l=2 / 2 0 k=3", "retain a 0 -> true", "retain a 0 -> false", "fetch a 0 2 1 -> error 12", "fetch a 0 3 1 -> ok 3 4 / 3 0 m="+long(450), "append a 0 0 0 n= -> ok 4 3 5")
}

func TestList(t *testing.T) {
	scene(t, "P25.1", makeA, "list a 0 0 -> ok 0 0 0", "append a 0 0 0 k=v l=w -> ok 0 0 2", "tick 5 ->", "append a 0 0 0 k=v -> ok 2 0 3",
		"list a 0 0 -> ok 0 0 3", "list a 0 1 -> ok 2 0 3", "list a 0 5 -> ok 2 0 3", "list a 0 6 -> ok 3 0 3", "list a 0 -1 -> ok 0 0 3", "list a 0 -9223372036854775808 -> ok 0 0 3", "list a 0 9223372036854775807 -> ok 3 0 3",
		"list q 0 0 -> error 4", "list a 1 0 -> error 4", "list a -1 0 -> error 4")
}

func TestOffsets(t *testing.T) {
	scene(t, "P25.1", makeA, "create c 2 512 -1 -1 1 0 -> ok", "offset g a 0 -> error 4", "commit g a 0 7 -> ok", "offset g a 0 -> ok 7", "offset h a 0 -> error 4", "offset g c 0 -> error 4", "commit g c 1 9 -> ok", "offset g c 0 -> error 4", "offset g c 1 -> ok 9",
		"commit g a 0 3 -> ok", "offset g a 0 -> ok 3", "commit g a 0 1125899906842624 -> ok", "offset g a 0 -> ok 1125899906842624", "commit a g 0 7 -> error 4", "offset a g 0 -> error 4",
		"commit g a 1 7 -> error 4", "commit g q 0 7 -> error 4", "commit g a -1 7 -> error 4", "commit x/y q 0 7 -> error 4", "commit g a 0 -1 -> error 1", "commit g a 0 1125899906842625 -> error 1", "commit x/y a 0 7 -> error 1", "commit .. a 0 7 -> error 1", "commit "+long(51)+" a 0 7 -> error 1", "commit "+long(50)+" a 0 7 -> ok",
		"offset g a 1 -> error 4", "offset g q 0 -> error 4", "offset x/y q 0 -> error 4", "offset x/y a 0 -> error 1", "offset "+long(51)+" a 0 -> error 1", "offset "+long(50)+" a 0 -> ok 7", "offset g a 0 -> ok 1125899906842624")
}

// TestOffsetsMany: 200 of them are known, and no more.
func TestOffsetsMany(t *testing.T) {
	rows := []string{makeA}
	for i := range 200 {
		rows = append(rows, fmt.Sprintf("commit g%d a 0 %d -> ok", i, i))
	}
	scene(t, "P25.1", append(rows, "commit h a 0 1 -> error 2", "commit g7 a 0 1 -> ok", "offset h a 0 -> error 4", "offset g7 a 0 -> ok 1", "offset g199 a 0 -> ok 199")...)
}

func TestTick(t *testing.T) {
	scene(t, "P25.1", "create a 1 4096 -1 -1 0 0 -> ok", "append a 0 0 0 a= -> ok 0 0 1", "tick 5 ->", "append a 0 0 0 b= -> ok 1 0 2", "tick 0 ->", "tick -3 ->", "tick -9223372036854775808 ->", "append a 0 0 0 c= -> ok 2 0 3", "tick 2 ->", "append a 0 0 0 d= e= -> ok 3 0 5",
		"fetch a 0 0 9999 -> ok 0 5 / 0 0 a= / 1 5 b= / 2 5 c= / 3 7 d= / 4 7 e=", "tick 9223372036854775807 ->", "append a 0 0 0 f= -> ok 5 0 6", "tick 1 ->", "append a 0 0 0 g= -> ok 6 0 7", "commit g a 0 1 -> ok", "fetch a 0 5 9999 -> ok 0 7 / 5 1125899906842624 f= / 6 1125899906842624 g=")
}

func TestSteps(t *testing.T) {
	scene(t, "P25.1", "tidy -> false", "sweep -> false", "retain a 0 -> error 4", "compact a 0 -> error 4", makeA, "retain a 0 -> false", "compact a 0 -> false", "retain a 1 -> error 4", "compact a 1 -> error 4", "retain a -1 -> error 4", "compact a -1 -> error 4", "retain "+long(51)+" 0 -> error 4", "compact x/y 0 -> error 4",
		"delete a -> ok", "retain a 0 -> error 4", "compact a 0 -> error 4", "sweep -> true", "sweep -> true", "sweep -> true", "sweep -> false")
	// Each is the one that it says: there is something to do for all four of them.
	rows := []string{"create gone 1 512 -1 -1 0 0 -> ok", "delete gone -> ok", "create a 1 512 0 -1 0 0 -> ok", "create c 1 512 -1 -1 1 0 -> ok"}
	for i := range 2 {
		for _, topic := range []string{"a", "c"} {
			rows = append(rows, fmt.Sprintf("append %s 0 0 0 k=%s -> ok %d 0 %d", topic, long(450), i, i+1))
		}
	}
	for range 60 {
		rows = append(rows, "commit g a 0 1 -> ok")
	}
	rows = append(rows, "compact a 0 -> false", "retain c 0 -> false", "retain a 0 -> true", "list a 0 0 -> ok 1 1 2", "compact c 0 -> true", "fetch c 0 0 9 -> ok 0 2 / 1 0 k="+long(450), "sweep -> true", "sweep -> true", "sweep -> true", "sweep -> false", "retain a 0 -> false", "compact c 0 -> false")
	scene(t, "P25.1", append(rows, "tidy -> true", "tidy -> false", "offset g a 0 -> ok 1")...)
}
