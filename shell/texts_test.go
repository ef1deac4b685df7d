package shell_test

import (
	"strings"
	"testing"

	"bollard/api"
	"bollard/shell"
)

// isAsByHand must be what any text answers, also with something behind it.
func isAsByHand(t *testing.T, text string) {
	t.Helper()
	plays(t, "P25.1", text, byHand(text))
	plays(t, "P25.1", text+"\ntopics\nopen", byHand(text+"\ntopics\nopen"))
}

// TestBytesAlone: texts of one byte, of two, and of one among others.
func TestBytesAlone(t *testing.T) {
	t.Parallel()
	var all, rows strings.Builder
	for c := range 256 {
		one := string([]byte{byte(c)})
		isAsByHand(t, one)
		all.WriteString(one)
		rows.WriteString(one + "\n" + one + one + "\ntopics" + one + "\n" + one + "topics\ntopics" + one + "open\ncreate " + one + " 1 512 -1 -1 0 0\ndelete " + one + "\ntick " + one + "\ntick 1" + one + "\nsend 0 0" + one + "\n")
	}
	isAsByHand(t, all.String())
	isAsByHand(t, rows.String())
	for _, text := range []string{"\x00", "\x00\x00", "\x00\n\x00", "\xff", "\xff\n\xff\n", strings.Repeat("\xff", 1000), strings.Repeat("\x00", 1000), strings.Repeat("\n", 1000), "\n\n \n\n", "\r\n\r\n", "topics\r\ntopics\n", "topics\x00\ntopics", "\n\n\ntopics", "topics\n\n\n", "\ufeff" + "topics\ntopics"} {
		isAsByHand(t, text)
	}
}

// TestBytesDrawn: texts of drawn bytes, and of drawn words.
func TestBytesDrawn(t *testing.T) {
	t.Parallel()
	vocabulary := strings.Split("create delete commit topics append fetch list offset tick retain compact tidy sweep cut crash open send # / - = 0 1 2 -1 512 100 a b g k=v -=- k= 00 ff 0000 000000026363 x", " ")
	for seed := range 300 {
		x := dice(seed)
		var raw, said strings.Builder
		for range x.below(400) {
			raw.WriteByte(byte(pick(&x, x.below(256), 10, 32, x.below(128), 0, 255)))
		}
		for range x.below(300) {
			said.WriteString(pick(&x, vocabulary...) + pick(&x, " ", " ", " ", " ", "\n", "\n", "  ", ""))
		}
		isAsByHand(t, raw.String())
		isAsByHand(t, said.String())
	}
}

// TestNames: names of topics and of groups are any bytes that 9 takes; a word that it does not take is refused by the request alone, which has its ID.
func TestNames(t *testing.T) {
	for _, name := range []string{"#", "##x", "0", "-1", "-", "/x", "=", "k=v", "\x00", "a\x00b", "\xff", "\x80\x81", "\t", "a\tb", "ä", "\u00a0", "\u2028", "ok", "error", "create", "...", ".", "..", ".a", "\r", long(49), long(50), long(51), long(5000)} {
		text := script("create "+name+" 2 512 -1 -1 0 0", "topics", "append "+name+" 1 0 0 k=v", "fetch "+name+" 1 0 9", "list "+name+" 1 0", "commit "+name+" "+name+" 1 5", "commit g "+name+" 1 5", "offset "+name+" "+name+" 1", "offset g "+name+" 0", "retain "+name+" 1", "compact "+name+" 1", "delete "+name, "topics")
		isAsByHand(t, text)
		isName := len(name) <= 50 && name != "." && name != ".." && !strings.ContainsAny(name, "/\x00")
		want := "error 1\nok\nerror 4\nerror 4\nerror 4\nerror 4\nerror 4\nerror 4\nerror 4\nerror 4\nerror 4\nerror 4\nok\n"
		if isName {
			want = "ok\nok\ntopic " + name + " 2\nok 0 0 1\nok 0 1\n0 0 k=v\nok 0 0 1\nok\nok\nok 5\nerror 4\nfalse\nfalse\nok\nok\n"
		}
		if got := shell.Play(text); got != want {
			t.Errorf("P25.1: of the topic %s: %s, want %s", brief(name), brief(got), brief(want))
		}
	}
}

// TestPairs: keys and values that are empty, none, hold an = or any bytes; the first = parts them.
func TestPairs(t *testing.T) {
	pairs := []string{"=", "==", "===", "=v", "k=", "-=", "=-", "-=-", "--=--", "-k=-v", "--=-", "-=--", "-==", "=-=", "k==v", "a=b=c", "k=-=", "-=-=-", "0=0", "#=#", "#k=v", "/=/", "k=/", "\x00=\x00", "\xff=\xfe", "\x80=\xc3", "ä=ö", "\t=\t", "\r=\r", "k=v\r", "\u00a0=\u2028", "ok=ok", "error=1", "\"k\"=\"v\"", "k=" + long(2000), long(2000) + "=v"}
	want := []string{"ok\n"}
	lines := []string{"create a 1 8192 -1 -1 0 0"}
	for i, pair := range pairs {
		lines = append(lines, "append a 0 0 0 "+pair, "fetch a 0 "+itoa(i)+" 1")
		want = append(want, "ok "+itoa(i)+" 0 "+itoa(i+1)+"\n", "ok 0 "+itoa(i+1)+"\n"+itoa(i)+" 0 "+pair+"\n")
	}
	if got := byHand(script(lines...)); strings.Join(got, "") != strings.Join(want, "") {
		t.Fatal("P25.1: by hand pairs are told otherwise")
	}
	plays(t, "P25.1", script(lines...), want)
	// All bytes that a word may have, on both sides of the first =.
	var words []string
	for c := range 256 {
		if one := string([]byte{byte(c)}); one != " " && one != "\n" {
			words = append(words, one+one+"="+one+one, "x"+one+"="+one)
		}
	}
	for len(words) > 0 {
		n := min(len(words), 100)
		told := "ok\nok 0 0 " + itoa(n) + "\nok 0 " + itoa(n) + "\n"
		for i, w := range words[:n] {
			told += itoa(i) + " 0 " + w + "\n"
		}
		text := script("create a 1 8192 -1 -1 0 0", "append a 0 0 0 "+strings.Join(words[:n], " "), "fetch a 0 0 1")
		if got := shell.Play(text); got != told {
			t.Errorf("P25.1: pairs of any bytes: %s, want %s", brief(got), brief(told))
		}
		words = words[n:]
	}
}

// TestPairsKept: `-` is none, and not a key or a value of that name; an empty one is one.
func TestPairsKept(t *testing.T) {
	h := handOf([]string{"create a 1 8192 -1 -1 0 0"})
	p := shell.Begun()
	p.Answer("create a 1 8192 -1 -1 0 0")
	for _, x := range []struct {
		pair string
		want api.Record
	}{
		{"k=v", api.Record{HasKey: true, Key: "k", HasVal: true, Val: "v"}}, {"-=v", api.Record{HasVal: true, Val: "v"}}, {"k=-", api.Record{HasKey: true, Key: "k"}}, {"-=-", api.Record{}},
		{"=", api.Record{HasKey: true, HasVal: true}}, {"-=", api.Record{HasVal: true}}, {"=-", api.Record{HasKey: true}}, {"a=b=c", api.Record{HasKey: true, Key: "a", HasVal: true, Val: "b=c"}}, {"-=-=", api.Record{HasVal: true, Val: "-="}}, {"--=--", api.Record{HasKey: true, Key: "--", HasVal: true, Val: "--"}},
	} {
		line := "append a 0 0 0 " + x.pair
		p.Answer(line)
		h.answer(line)
		r := api.Request{Kind: api.ReqList, Topic: "a"}
		at := p.World().Do(r).Next - 1
		told := p.World().Do(api.Request{Kind: api.ReqFetch, Topic: "a", Offset: at, Max: 1})
		if len(told.Batches) != 1 || len(told.Batches[0].Records) != 1 || told.Batches[0].Records[0] != x.want {
			t.Errorf("P25.1: %q is kept as %v, want %v", x.pair, told.Batches, x.want)
		}
		if told := h.w.Do(api.Request{Kind: api.ReqFetch, Topic: "a", Offset: at, Max: 1}); told.Batches[0].Records[0] != x.want {
			t.Errorf("P25.1: by hand %q is kept as %v, want %v", x.pair, told.Batches, x.want)
		}
	}
}
