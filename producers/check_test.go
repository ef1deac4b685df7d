package producers_test

import (
	"testing"

	"bollard/producers"
)

// edges are numbers that a producer or a seq may be asked with.
func edges() []int {
	return []int{least, least + 1, -1 << 50, -2, -1, 0, 1, 2, 7, 59, 60, 1 << 31, end, most - 1, most}
}

// told holds Check against what is written out here.
func told(t *testing.T, p *producers.Producers, producer, seq, base int, again bool, want any) {
	t.Helper()
	if b, a, e := p.Check(producer, seq); b != base || a != again || e != want {
		t.Errorf("P16.2: Check(%d, %d) = %d %v %d, want %d %v %v", producer, seq, b, a, e, base, again, want)
	}
}

// TestCheckUnknown: ErrArg first, then ErrBig, then ErrGap; while nobody, all but one and all are known.
func TestCheckUnknown(t *testing.T) {
	for _, n := range []int{0, 1, 59, 60} {
		k := made(t, 400, 20)
		p, q := k.knows("/p", n)
		for _, producer := range []int{1, 7, 99, 160, most} {
			first, later := ok, gap
			if n == room {
				first, later = big, big
			}
			told(t, p, producer, 0, 0, false, first)
			for _, seq := range []int{1, 2, 60, end, most} {
				told(t, p, producer, seq, 0, false, later)
			}
			for _, seq := range []int{-1, -2, least} {
				told(t, p, producer, seq, 0, false, arg)
			}
		}
		for _, producer := range []int{0, -1, -100, least} {
			for _, seq := range edges() {
				told(t, p, producer, seq, 0, false, arg)
			}
		}
		k.is("P16.2", p, q)
	}
}

// TestCheckKnown: the last seq, and those about it, of small and great ones.
func TestCheckKnown(t *testing.T) {
	k := made(t, 400, 20)
	p := k.makes("/p")
	for _, base := range []int{0, 1, 500, end} {
		for _, last := range []int{0, 1, 2, 10, 1 << 31, end, most - 2, most - 1, most} {
			k.do(p.Accept(7, last, base))
			for _, q := range []*producers.Producers{p, k.opens("/p")} {
				told(t, q, 7, last, base, true, ok)
				if last < most {
					told(t, q, 7, last+1, 0, false, ok)
				}
				if last < most-1 {
					told(t, q, 7, last+2, 0, false, gap)
				}
				if last > 0 {
					told(t, q, 7, last-1, 0, false, gap)
					told(t, q, 7, 0, 0, false, gap)
				}
				for _, seq := range []int{-1, least, least + 1} {
					told(t, q, 7, seq, 0, false, arg)
				}
				told(t, q, 8, 0, 0, false, ok)
				told(t, q, 8, last+1, 0, false, map[bool]any{true: gap, false: arg}[last < most])
			}
		}
	}
}

// TestCheckGreatest: behind the greatest seq none comes.
func TestCheckGreatest(t *testing.T) {
	k := made(t, 400, 20)
	p := k.makes("/p")
	k.do(p.Accept(7, most, 5))
	for _, seq := range edges() {
		switch {
		case seq < 0:
			told(t, p, 7, seq, 0, false, arg)
		case seq == most:
			told(t, p, 7, seq, 5, true, ok)
		default:
			told(t, p, 7, seq, 0, false, gap)
		}
	}
}

// TestCheckFull: one that is known is told while all are known.
func TestCheckFull(t *testing.T) {
	k := made(t, 400, 20)
	p, q := k.knows("/p", room)
	for i := range room {
		told(t, p, 100+i, 3*i, 1000+7*i, true, ok)
		told(t, p, 100+i, 3*i+1, 0, false, ok)
		told(t, p, 100+i, 3*i+2, 0, false, gap)
	}
	k.is("P16.2", p, q)
}

// TestCheckChangesNothing: asked as often as you like, the same is told.
func TestCheckChangesNothing(t *testing.T) {
	for _, n := range []int{0, 1, 59, 60} {
		k := made(t, 400, 20)
		p, q := k.knows("/p", n)
		k.still("P16.2", "Check", func() {
			for range 3 {
				for _, producer := range append(edges(), 100, 101, 158, 159) {
					for _, seq := range append(edges(), 174, 175, 176, 177, 178) {
						k.checks("P16.2", p, q, producer, seq)
						k.checks("P16.2", p, q, producer, seq)
					}
				}
				k.is("P16.2", p, q)
			}
		})
		k.again("P16.2", "/p", q)
	}
}
