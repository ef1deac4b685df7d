package device_test

import (
	"math"
	"slices"
	"testing"

	"bollard/api"
	"bollard/device"
)

// play is a device beside lists that tell what it must be: of each block what was flushed, then each pending write.
type play struct {
	d      *device.Device
	states [][]int
	ops    int
	left   int // below 0: never cut
}

func begin(t *testing.T, n int) *play {
	t.Helper()
	p := &play{d: made(t, n), left: -1}
	for range n {
		p.states = append(p.states, []int{-1})
	}
	return p
}

// power is what an op must answer for the power's sake.
func (p *play) power() api.Errno {
	p.ops++
	if p.left == 0 {
		return api.ErrOff
	}
	p.left = max(p.left-1, -1)
	return api.OK
}

func (p *play) write(k int, b []byte) (got, must api.Errno) {
	must = p.power()
	if must == api.OK && (k < 0 || k >= len(p.states) || len(b) != 512) {
		must = api.ErrArg
	}
	if must == api.OK {
		p.states[k] = append(p.states[k], int(b[0]))
	}
	return p.d.Write(k, b), must
}

func (p *play) flush() (got, must api.Errno) {
	if must = p.power(); must == api.OK {
		for k, s := range p.states {
			p.states[k] = []int{s[len(s)-1]}
		}
	}
	return p.d.Flush(), must
}

// now is what must be read.
func (p *play) now() (out []int) {
	for _, s := range p.states {
		out = append(out, s[len(s)-1])
	}
	return out
}

// after is what a crash must leave.
func (p *play) after(picks []int) (out []int) {
	for _, s := range p.states {
		turn := 0
		if len(s) > 1 && len(picks) > 0 {
			turn = modulo(picks[0], len(s))
		}
		if len(s) > 1 && len(picks) > 0 {
			picks = picks[1:]
		}
		out = append(out, s[turn])
	}
	return out
}

// crashed goes on with what a crash left.
func (p *play) crashed(picks []int) *play {
	q := &play{d: p.d.Crash(picks), left: -1}
	for _, v := range p.after(picks) {
		q.states = append(q.states, []int{v})
	}
	return q
}

// dice are numbers without a pattern, the same ones at each run.
type dice uint64

func (x *dice) below(n int) int {
	*x = *x*6364136223846793005 + 1442695040888963407
	return int(uint64(*x) >> 33 % uint64(n))
}

func (x *dice) picks() (out []int) {
	for range x.below(9) {
		switch x.below(6) {
		case 0:
			out = append(out, math.MinInt+x.below(5))
		case 1:
			out = append(out, math.MaxInt-x.below(5))
		default:
			out = append(out, x.below(21)-10)
		}
	}
	return out
}

// step does one thing, by the dice, with both.
func (p *play) step(t *testing.T, x *dice) *play {
	t.Helper()
	n := len(p.states)
	same := func(what string, got, must api.Errno) {
		t.Helper()
		if got != must {
			t.Fatalf("P3.2: %s = %d, want %d", what, got, must)
		}
	}
	switch x.below(16) {
	case 0, 1:
		got, must := p.flush()
		same("Flush", got, must)
	case 2:
		got, must := p.write(x.below(n+2)-1, full(1)[:510+x.below(3)])
		same("Write", got, must)
	case 3:
		c := x.below(12) - 2
		p.d.Cut(c)
		p.left = max(c, 0)
	case 4:
		picks := x.picks()
		want(t, "P3.3: Crash", p.d.Crash(picks), p.after(picks)...)
	case 5:
		return &play{p.d.Copy(), slices.Clone(p.states), p.ops, p.left}
	case 6:
		if x.below(4) == 0 {
			return p.crashed(x.picks())
		}
	default:
		got, must := p.write(x.below(n), full(x.below(250)))
		same("Write", got, must)
	}
	return p
}

func TestPlays(t *testing.T) {
	for seed := range 60 {
		x := dice(seed)
		p := begin(t, 1+x.below(12))
		for range 150 {
			p = p.step(t, &x)
			want(t, "P3.1: Read", p.d, p.now()...)
			if p.d.Ops() != p.ops {
				t.Fatalf("P3.1: Ops() = %d, want %d", p.d.Ops(), p.ops)
			}
			if t.Failed() {
				t.Fatalf("in the play %d", seed)
			}
		}
	}
}

// TestFlushedIsForGood: what was flushed, and not written since, each crash leaves, and crashes behind crashes.
func TestFlushedIsForGood(t *testing.T) {
	d := made(t, 8)
	for k := range 8 {
		put(t, d, k, 10+k)
		put(t, d, k, 20+k)
	}
	flush(t, d)
	for _, k := range []int{6, 1, 3} {
		put(t, d, k, 30+k)
		put(t, d, k, 40+k)
	}
	d.Cut(0)
	d.Write(0, full(99))
	d.Flush()
	x := dice(1)
	for range 300 {
		c := d.Crash(x.picks()).Crash(x.picks())
		for k, v := range row(t, c) {
			written := k == 6 || k == 1 || k == 3
			if !written && v != 20+k || written && v != 20+k && v != 30+k && v != 40+k {
				t.Fatalf("P3.5: a crash left %d in block %d", v, k)
			}
		}
	}
}

// TestPendingIsLost: of a crash with no picks what was flushed is left, and nothing else.
func TestPendingIsLost(t *testing.T) {
	for seed := range 30 {
		x := dice(1000 + seed)
		d := made(t, 6)
		for range 20 {
			put(t, d, x.below(6), x.below(100))
		}
		flush(t, d)
		flushed := row(t, d)
		for range x.below(30) {
			put(t, d, x.below(6), 100+x.below(100))
		}
		want(t, "P3.5: a crash with no picks", d.Crash(nil), flushed...)
		want(t, "P3.5: a crash with no picks", d.Crash([]int{}), flushed...)
		want(t, "P3.5: a crash with no picks, again", d.Crash(nil).Crash(nil), flushed...)
	}
	d := made(t, 2)
	put(t, d, 0, 1)
	want(t, "P3.5: a crash with no picks, never flushed", d.Crash(nil), -1, -1)
}

// TestManyPending: many writes of one block stay apart, and cost no more than they are.
func TestManyPending(t *testing.T) {
	const many = 20000
	d := made(t, 2)
	for i := range many {
		put(t, d, 1, i%251)
	}
	for _, p := range []int{1, 2, 250, 251, 252, many / 2, many, -1, -many} {
		turn := modulo(p, many+1)
		want(t, "P3.3: many pending writes", d.Crash([]int{p}), -1, (turn-1)%251)
	}
	want(t, "P3.5: many pending writes", d.Crash(nil), -1, -1)
	flush(t, d)
	want(t, "P3.5: many pending writes, flushed", d.Crash(nil), -1, (many-1)%251)
}
