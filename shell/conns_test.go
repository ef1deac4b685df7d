package shell_test

import (
	"fmt"
	"strings"
	"testing"

	"bollard/api"
	"bollard/shell"
)

// TestOpen: up to 16 are open; a closed one makes room, and its number does not come again.
func TestOpen(t *testing.T) {
	var rows []string
	for i := range 16 {
		rows = append(rows, fmt.Sprintf("open -> conn %d", i))
	}
	rows = append(rows, "open -> error 3", "open -> error 3", "send 3 ffffffff -> bytes", "open -> conn 16", "open -> error 3", "send 3 00 -> error 4", "crash / -> ok")
	for i := range 16 {
		rows = append(rows, fmt.Sprintf("send %d 00 -> error 4", i), fmt.Sprintf("open -> conn %d", 17+i))
	}
	scene(t, "P25.1", append(rows, "open -> error 3", "send 16 00 -> error 4", "send 17 00 -> bytes", "send 32 00 -> bytes", "send 33 00 -> error 4")...)
}

// TestSend: requests by connections, each answered with its ID, by which those of lines have nothing to do.
func TestSend(t *testing.T) {
	r := api.Record{HasKey: true, Key: "k x", HasVal: true, Val: "v\x00", Time: 9}
	scene(t, "P25.1", "send 0 00 -> error 4", "open -> conn 0", "send 0 0000 -> bytes", "send 0 000503 -> bytes", "send 0 00000007 -> bytes 0000000a030000000700"+"00000000", makeA,
		"send 0 "+asking(api.Request{Kind: api.ReqTopics, ID: 1<<32 - 1})+" -> bytes "+telling(api.Response{Kind: api.ReqTopics, ID: 1<<32 - 1, Topics: []string{"a"}, Parts: []int{1}}),
		"send 0 "+asking(sentAppend(3, "a", 7, 0, r), sentAppend(4, "a", 7, 0, r), sentAppend(5, "a", 7, 2, r), sentFetch(6, "q", 1))+" -> bytes "+telling(api.Response{Kind: api.ReqAppend, ID: 3, Next: 1}, api.Response{Kind: api.ReqAppend, ID: 4, Next: 1}, api.Response{Kind: api.ReqAppend, ID: 5, Code: api.ErrGap}, api.Response{Kind: api.ReqFetch, ID: 6, Code: api.ErrNone}),
		"fetch a 0 0 9 -> ok 0 1 / 0 9 k x=v\x00", "append a 0 7 0 k=v -> ok 0 0 1", "tick 7 ->", "append a 0 7 1 k=v -> ok 1 0 2",
		"send 0 "+asking(api.Request{Kind: api.ReqList, Topic: "a", Time: 8})+" -> bytes "+telling(api.Response{Kind: api.ReqList, Next: 2}),
		"send 1 00 -> error 4", "send -1 00 -> error 4", "send 9223372036854775807 00 -> error 4", "send -9223372036854775808 00 -> error 4")
	// Records that no line can tell are told as they are.
	odd := []api.Record{{HasKey: true, Key: "-", HasVal: true, Val: "-"}, {HasKey: true, Key: "a=b\n", HasVal: true, Val: " "}, {HasKey: true, Key: "\xff"}, {}}
	scene(t, "P25.1", "open -> conn 0", makeA, "send 0 "+asking(sentAppend(0, "a", 0, 0, odd...))+" -> bytes "+telling(api.Response{Kind: api.ReqAppend, Next: 4}), "fetch a 0 0 9 -> ok 0 4 / 0 0 -=- / 1 0 a=b / =  / 2 0 \xff=- / 3 0 -=-")
	scene(t, "P25.1", "open -> conn 0", "send 0 "+asking(api.Request{Kind: api.ReqCreate, Topic: "x y\nz", Parts: 1, Set: api.Settings{Segment: 512, Bytes: -1, Age: -1}})+" -> bytes "+telling(api.Response{Kind: api.ReqCreate}), "topics -> ok / topic x y / z 1")
}

// TestSendText: what is no request is answered by an error; a length that may not be closes that connection alone, behind what stands ahead.
func TestSendText(t *testing.T) {
	wrong := telling(api.Response{Code: api.ErrText})
	scene(t, "P25.1", "open -> conn 0", "open -> conn 1", "send 0 00000002"+"9999 -> bytes "+wrong, "send 0 00000000 -> bytes "+wrong, "send 1 00 -> bytes", "send 0 000000026363"+"00000001ff"+" -> bytes "+wrong+wrong,
		"send 0 0000000000002001 -> bytes "+wrong, "send 0 00 -> error 4", "send 0 000000026363 -> error 4", "send 1 000000 -> bytes "+wrong, "open -> conn 2", "send 2 00002328 -> bytes", "send 2 00 -> error 4", "send 1 00 -> bytes", "topics -> ok")
	scene(t, "P25.1", "open -> conn 0", "send 0 00002000"+strings.Repeat("00", 8192)+" -> bytes "+wrong, "send 0 00 -> bytes")
}

// TestSendBig: an answer of more than MaxFrame bytes is told as an error, and the connection goes on.
func TestSendBig(t *testing.T) {
	rows := []string{"open -> conn 0", "create a 1 8192 -1 -1 0 0 -> ok"}
	for i := range 5 {
		rows = append(rows, fmt.Sprintf("append a 0 0 0 k=%s -> ok %d 0 %d", long(1900), i, i+1))
	}
	scene(t, "P25.1", append(rows, "send 0 "+asking(sentFetch(7, "a", 1<<30))+" -> bytes "+telling(api.Response{Kind: api.ReqFetch, ID: 7, Code: api.ErrBig}), "send 0 "+asking(sentOffset(8, "g", "a"))+" -> bytes "+telling(api.Response{Kind: api.ReqOffset, ID: 8, Code: api.ErrNone}))...)
}

// TestSendPieces: however bytes are cut into lines, the answers are the same, one behind the other.
func TestSendPieces(t *testing.T) {
	r := api.Record{HasKey: true, Key: "k", Time: 3}
	row := asking(sentAppend(1, "a", 7, 0, r), sentAppend(2, "a", 7, 0, r), api.Request{Kind: api.ReqTopics, ID: 3}, sentFetch(4, "a", 100)) + wrapped(9, 9) + asking(sentOffset(5, "g", "a")) + wrapped()
	lines := []string{"create a 1 1000 -1 -1 0 0", "open"}
	text := script(append(lines, "send 0 "+row)...)
	whole := shell.Play(text)
	plays(t, "P25.1", text, byHand(text))
	whole = strings.TrimSuffix(strings.TrimPrefix(whole, "ok\nconn 0\nbytes "), "\n")
	for size := 2; size < len(row); size += 2 {
		pieces := append([]string{}, lines...)
		for at := 0; at < len(row); at += size {
			pieces = append(pieces, "send 0 "+row[at:min(at+size, len(row))])
		}
		text := script(pieces...)
		if size < 10 || size%50 == 0 {
			plays(t, "P25.1", text, byHand(text))
		}
		told := ""
		for _, line := range linesOf(shell.Play(text))[2:] {
			told += strings.TrimPrefix(strings.TrimPrefix(line, "bytes"), " ")
		}
		if told != whole {
			t.Fatalf("P25.1: in pieces of %d digits: %s, want %s", size, brief(told), brief(whole))
		}
	}
}

// TestDigits: each byte by its two digits, read and told. The ID of a request comes back as it was sent.
func TestDigits(t *testing.T) {
	lines, want := []string{"open"}, []string{"conn 0\n"}
	for c := range 256 {
		id := fmt.Sprintf("%02x%02x%02x%02x", c, 255-c, c^0x5a, c)
		lines = append(lines, "send 0 0000000503"+id)
		want = append(want, "bytes 0000000a03"+id+"00"+"00000000\n")
	}
	plays(t, "P25.1", script(lines...), want)
	lines, want = []string{"open"}, []string{"conn 0\n"}
	for c := range 256 {
		for _, d := range "0aF9/:`g@G \x00" {
			if strings.ContainsRune("0123456789abcdef", rune(c)) && strings.ContainsRune("0a9", d) || c == '\n' || c == ' ' {
				continue
			}
			lines = append(lines, "send 0 "+string([]byte{byte(c), byte(d)}), "send 0 "+string([]byte{byte(d), byte(c)}))
			want = append(want, "error 1\n", "error 1\n")
		}
	}
	plays(t, "P25.1", script(append(lines, "send 0 00000000")...), append(want, "bytes 0000000600000000000d\n"))
}
