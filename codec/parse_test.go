package codec_test

import (
	"bytes"
	"slices"
	"testing"

	"bollard/api"
)

// requestRows are the bytes of some requests.
func requestRows() (l [][]byte) {
	for _, r := range someRequests() {
		l = append(l, laidRequest(r))
	}
	return l
}

// responseRows are the bytes of some responses.
func responseRows() (l [][]byte) {
	for _, r := range someResponses() {
		l = append(l, laidResponse(r))
	}
	return l
}

func TestParseNothing(t *testing.T) {
	for _, b := range [][]byte{nil, {}, make([]byte, 0, 20), {2}, {0}, {3, 0, 0, 0}, {3, 0, 0, 0, 0, 0}} {
		noRequest(t, b)
	}
	for _, b := range [][]byte{nil, {}, make([]byte, 0, 20), {1}, {0}, {1, 0, 0, 0, 0}, {1, 0, 0, 0, 0, 0, 0}} {
		noResponse(t, b)
	}
}

// TestBeginnings: each beginning of what is written is none's; behind it lies the rest of it, which is not looked at.
func TestBeginnings(t *testing.T) {
	for _, b := range requestRows() {
		for n := range b {
			noRequest(t, b[:n])
		}
	}
	for _, b := range responseRows() {
		for n := range b {
			noResponse(t, b[:n])
		}
	}
}

// TestMoreBytes: what is written, with something behind it.
func TestMoreBytes(t *testing.T) {
	tails := [][]byte{{0}, {1}, {255}, {0, 0}, make([]byte, 8), make([]byte, 100)}
	for _, b := range requestRows() {
		for _, tail := range append(tails, b) {
			noRequest(t, slices.Concat(b, tail))
		}
	}
	for _, b := range responseRows() {
		for _, tail := range append(tails, b) {
			noResponse(t, slices.Concat(b, tail))
		}
	}
}

// TestChangedBytes: each byte is each other value.
func TestChangedBytes(t *testing.T) {
	for _, b := range requestRows() {
		for i, was := range b {
			for v := range 256 {
				b[i] = byte(v)
				isAsked(t, b)
			}
			b[i] = was
		}
	}
	for _, b := range responseRows() {
		for i, was := range b {
			for v := range 256 {
				b[i] = byte(v)
				isAnswered(t, b)
			}
			b[i] = was
		}
	}
}

// TestCutBytes: what is written, with some bytes left out, and with some twice.
func TestCutBytes(t *testing.T) {
	for _, b := range requestRows() {
		for i := range b {
			for n := 1; n <= 9 && i+n <= len(b); n++ {
				isAsked(t, slices.Concat(b[:i], b[i+n:]))
				isAsked(t, slices.Concat(b[:i+n], b[i:]))
			}
		}
	}
	for _, b := range responseRows() {
		for i := range b {
			for n := 1; n <= 9 && i+n <= len(b); n++ {
				isAnswered(t, slices.Concat(b[:i], b[i+n:]))
				isAnswered(t, slices.Concat(b[:i+n], b[i:]))
			}
		}
	}
}

// TestParseKinds: all bytes ahead of none, of an ID, and of what each Kind has.
func TestParseKinds(t *testing.T) {
	for kind := range 256 {
		isAsked(t, []byte{byte(kind)})
		isAnswered(t, []byte{byte(kind)})
		for n := range 60 {
			b := make([]byte, n+1)
			b[0] = byte(kind)
			isAsked(t, b)
			isAnswered(t, b)
			if n >= 5 {
				b[5] = 1
				isAsked(t, b)
				isAnswered(t, b)
			}
		}
		for _, b := range append(requestRows(), responseRows()...) {
			b[0] = byte(kind)
			isAsked(t, b)
			isAnswered(t, b)
		}
	}
}

// TestAllCodes: each Code with each Kind, with nothing behind and with something.
func TestAllCodes(t *testing.T) {
	for kind := range 256 {
		for code := range 256 {
			b := []byte{byte(kind), 1, 2, 3, 4, byte(code)}
			isAnswered(t, b)
			isAnswered(t, append(b, 0))
			isAnswered(t, append(b, make([]byte, 8)...))
		}
	}
}

// appendOf is the bytes of an append up to how many records it has.
func appendOf(count int) []byte {
	b := laidInts(laidText([]byte{4, 0, 0, 0, 9}, "t"), 1, 2, 3)
	return order.AppendUint16(b, uint16(count))
}

// TestMarks: each first byte of a record, with all there may be behind it.
func TestMarks(t *testing.T) {
	for mark := range 256 {
		for _, behind := range [][]byte{
			laidInts(nil, 5),
			laidInts(laidText(nil, "k"), 5),
			laidInts(laidText(laidText(nil, "k"), "v"), 5),
			laidInts(laidText(laidText(laidText(nil, "k"), "v"), ""), 5),
			make([]byte, 8), make([]byte, 10), make([]byte, 12), make([]byte, 14),
			{},
		} {
			b := slices.Concat(appendOf(1), []byte{byte(mark)}, behind)
			isAsked(t, b)
			if mark > 3 {
				noRequest(t, b)
			}
			isAsked(t, slices.Concat(appendOf(2), []byte{0}, laidInts(nil, 7), []byte{byte(mark)}, behind))
		}
	}
}

// TestFlags: each byte that Compact may be, and may not.
func TestFlags(t *testing.T) {
	for flag := range 256 {
		b := laidInts(laidText([]byte{1, 0, 0, 0, 9}, "t"), 1, 2, 3, 4)
		b = laidInts(append(b, byte(flag)), 5)
		isAsked(t, b)
		if flag > 1 {
			noRequest(t, b)
		}
	}
}

// TestTooMany: how many and how long that say more, or less, than is there.
func TestTooMany(t *testing.T) {
	for _, n := range []int{0, 1, 2, 3, 4, 5, 255, 256, 257, 768, full - 1, full} {
		two := order.AppendUint16(nil, uint16(n))
		records := []byte{0, 0, 0, 0, 0, 0, 0, 0, 0, 0, 0, 0, 0, 0, 0, 0, 0, 0, 0, 0, 0, 0, 0, 0, 0, 0, 0}
		isAsked(t, slices.Concat(appendOf(n), records))
		isAsked(t, slices.Concat([]byte{2, 0, 0, 0, 9}, two, []byte("abc")))
		isAsked(t, slices.Concat([]byte{8, 0, 0, 0, 9}, two, []byte("abc"), make([]byte, 10)))
		isAsked(t, slices.Concat([]byte{8, 0, 0, 0, 9, 0, 1, 'a'}, two, []byte("abc"), make([]byte, 8)))
		isAsked(t, slices.Concat(appendOf(1), []byte{1}, two, []byte("abc"), make([]byte, 8)))
		isAsked(t, slices.Concat(appendOf(1), []byte{2}, two, []byte("abc"), make([]byte, 8)))
		isAsked(t, slices.Concat(appendOf(1), []byte{3, 0, 1, 'a'}, two, []byte("abc"), make([]byte, 8)))
		head := []byte{3, 0, 0, 0, 9, 0}
		isAnswered(t, slices.Concat(head, two, []byte{0, 1, 'a', 0, 0, 0, 1, 'b'}, []byte{0, 0}))
		isAnswered(t, slices.Concat(head, []byte{0, 1}, two, []byte("abc"), []byte{0, 0}))
		isAnswered(t, slices.Concat(head, []byte{0, 1, 0, 1, 'a'}, two, make([]byte, 24)))
		for _, l := range [][]api.Batch{{}, {bat(1, 1)}, {bat(1, 1), bat(2, 2), bat(9, 3)}} {
			b := laidResponse(api.Response{Kind: 5, Batches: l})
			copy(b[22:], two)
			isAnswered(t, b)
		}
	}
}

// TestOtherBatches: bytes in a batch's place that are none's, ahead of, between and behind right ones.
func TestOtherBatches(t *testing.T) {
	right := laidBatch(bat(7, 3))
	moved := laidBatch(bat(9, 3))
	short := bytes.Clone(right)
	short[11]--
	longer := bytes.Clone(right)
	longer[11]++
	sum := bytes.Clone(right)
	sum[15] ^= 1
	key := bytes.Clone(right)
	key[len(key)-1] ^= 1
	far := bytes.Clone(right)
	far[0] = 1
	for _, b := range [][]byte{{}, {0}, right[:47], right[:48], right[:len(right)-1], short, longer, sum, key, far, make([]byte, 100), append(bytes.Clone(right), 0), bytes.Repeat([]byte{255}, 60), laidBatch(bigBatch(6001))} {
		for _, l := range [][][]byte{{b}, {b, right, moved}, {right, b, moved}, {right, moved, b}} {
			all := slices.Concat(l...)
			noResponse(t, slices.Concat([]byte{5, 0, 0, 0, 0, 0}, make([]byte, 16), order.AppendUint16(nil, uint16(len(l))), all))
		}
	}
}

// TestChangedLong: what has much behind it, with some bytes changed, cut anywhere.
func TestChangedLong(t *testing.T) {
	x := dice(3)
	rows := [][]byte{
		laidRequest(api.Request{Kind: 2, Topic: long(full)}),
		laidRequest(api.Request{Kind: 8, Group: long(full), Topic: long(full)}),
		laidRequest(api.Request{Kind: 4, Records: []api.Record{rec(long(full), long(full), 5)}}),
		laidRequest(api.Request{Kind: 4, Records: make([]api.Record, full)}),
	}
	for _, b := range rows {
		for range 15 {
			i := x.below(x.pick(len(b), 60))
			was := b[i]
			b[i] = byte(x.below(256))
			isAsked(t, b)
			b[i] = was
			isAsked(t, b[:x.below(len(b))])
		}
		noRequest(t, b[:len(b)-1])
	}
	rows = [][]byte{
		laidResponse(api.Response{Kind: 3, Topics: make([]string, full), Parts: make([]int, full)}),
		laidResponse(api.Response{Kind: 3, Topics: []string{long(full), long(full)}}),
		laidResponse(api.Response{Kind: 5, Batches: slices.Repeat([]api.Batch{bat(1, 1)}, 2000)}),
	}
	for _, b := range rows {
		for range 15 {
			i := x.below(x.pick(len(b), 60))
			was := b[i]
			b[i] = byte(x.below(256))
			isAnswered(t, b)
			b[i] = was
			isAnswered(t, b[:x.below(len(b))])
		}
		noResponse(t, b[:len(b)-1])
	}
}

// TestDrawnBytes: bytes that nobody laid, mostly small ones.
func TestDrawnBytes(t *testing.T) {
	read := 0
	for seed := range 60000 {
		x := dice(seed)
		b := make([]byte, x.below(x.pick(8, 30, 60, 200)))
		for i := range b {
			if x.below(4) == 0 {
				b[i] = byte(x.below(x.pick(2, 4, 256)))
			}
		}
		if len(b) > 0 && x.below(10) > 0 {
			b[0] = byte(x.below(10))
		}
		isAsked(t, b)
		isAnswered(t, b)
		if _, e := readRequest(b); e == ok {
			read++
		}
		if _, e := readResponse(b); e == ok {
			read++
		}
	}
	if read < 1000 {
		t.Fatalf("only %d of the drawn bytes are any request's or response's", read)
	}
}
