package conns_test

import (
	"bytes"
	"slices"
	"testing"
)

// someRows are bytes of requests, of what is none, and of lengths that may not be.
func someRows() [][]byte {
	return [][]byte{
		slices.Concat(asked(every()...), framed(), framed(9, 9), asked(topics())[:7]),
		slices.Concat(framed(), framed(), asked(create("b", 1)), framed(0), asked(add("b", 0, 7, 0, rec("k", "v", 3)), fetch("b", 0, 0, 100)), length(maxFrame+1), asked(create("x", 1))),
		append(asked(commit("g", "a", 0, 5), remove("s"), thins("s"), fetch("s", 0, 0, 1), offset("g", "a", 0)), 255, 255, 255),
	}
}

// cuts feeds a row in pieces to a connection of its own: the answers, one behind the other, are those of one piece.
func (k *kit) cuts(promise string, row []byte, pieces ...[]byte) {
	k.t.Helper()
	if !bytes.Equal(slices.Concat(pieces...), row) {
		k.t.Fatalf("the test's own pieces are not the row")
	}
	whole, code := (&model{q: k.m.q.clone(), wait: map[int][]byte{0: nil}}).feed(0, row, 5)
	n := k.opens(promise)
	var all []byte
	for _, p := range pieces {
		k.m.feed(n, p, 5)
		got, e := k.c.Feed(n, p, 5)
		if all = append(all, got...); e != code && !k.c.Closed(n) {
			k.t.Fatalf("%s: Feed(%d, %s) = %d", promise, n, short(p), e)
		}
	}
	if !bytes.Equal(all, whole) {
		k.t.Fatalf("%s: %d pieces, the first ones %x: the answers are\n %s, in one piece\n %s", promise, len(pieces), pieces[:min(3, len(pieces))], short(all), short(whole))
	}
	k.is(promise)
}

func TestPieces(t *testing.T) {
	old := stock(t)
	for i, row := range someRows() {
		old.fork(1).cuts("P22.3", row, row)
		old.fork(1).cuts("P22.3", row, nil, row, []byte{})
		var single, spaced [][]byte
		for n := range row {
			single = append(single, row[n:n+1])
			spaced = append(spaced, nil, row[n:n+1], []byte{})
		}
		old.fork(2).cuts("P22.3", row, single...)
		old.fork(2).cuts("P22.3", row, spaced...)
		for n := range row {
			old.fork(i).cuts("P22.3", row, row[:n], row[n:])
			if n%5 == i {
				old.fork(i).cuts("P22.3", row, row[:n/2], nil, row[n/2:n], []byte{}, row[n:])
			}
		}
	}
}

func TestDrawnPieces(t *testing.T) {
	old := stock(t)
	for seed := range 200 {
		x := dice(seed)
		rows := someRows()
		row := slices.Concat(asked(every()...), rows[x.below(len(rows))])
		old.fork(1).cuts("P22.3", row, x.pieces(row, pick(&x, 3, 10, 100, 700))...)
	}
}

// TestGreatPieces: the greatest frames and answers, cut in two.
func TestGreatPieces(t *testing.T) {
	old := stock(t)
	old.asks("P22.1", 0, 0, add("a", 0, 0, 0, sized(5000)...), add("a", 0, 0, 0, sized(1000)...))
	row := slices.Concat(framed(make([]byte, maxFrame)...), asked(fetch("a", 0, 0, 1), add("a", 0, 9, 0, sized(6000)...), fetch("a", 0, 8, most)), framed(make([]byte, maxFrame)...), asked(topics()))
	for n := 0; n < len(row); n += 211 {
		old.fork(0).cuts("P22.3", row, row[:n], row[n:])
	}
	for _, n := range []int{1, 2, 3, 4, 5, 6, 7, maxFrame, maxFrame + 2, maxFrame + 3, maxFrame + 4, maxFrame + 5, len(row) - 1} {
		old.fork(0).cuts("P22.3", row, row[:n], row[n:])
	}
	for seed := range 20 {
		x := dice(seed)
		old.fork(0).cuts("P22.3", row, x.pieces(row, pick(&x, 50, 5000))...)
	}
}

// TestManyFrames: a great many in one piece.
func TestManyFrames(t *testing.T) {
	k := stock(t)
	k.feeds("P22.1", 0, 0, bytes.Repeat(framed(), 200000), bytes.Repeat(framed(7), 50000), bytes.Repeat(asked(topics()), 20000))
	k.is("P22.1")
}
