package journal_test

import (
	"slices"
	"testing"

	"bollard/api"
	"bollard/device"
	"bollard/journal"
)

// play is a journal beside a list of what its homes must be.
type play struct {
	t     *testing.T
	x     *dice
	d     *device.Device
	j     *journal.Journal
	state []int
	maybe []int // of a device that went off: what may be told too
	clean bool  // nothing is committed that is not Synced
	off   bool
}

func begin(t *testing.T, seed int) *play {
	x := dice(seed)
	n := []int{first + 1, first + 2, 260, 310}[x.below(4)]
	d := formatted(t, n)
	return &play{t: t, x: &x, d: d, j: opened(t, d), state: make([]int, n-first), maybe: make([]int, n-first), clean: true}
}

// changes are some, by the dice, that must be taken.
func (p *play) changes() (l act) {
	n := len(p.state)
	size := 1 + p.x.below(min(n, 60))
	if p.x.below(3) > 0 {
		size = min(size, 3)
	}
	step := 1
	if n%7 > 0 {
		step = 7
	}
	from := p.x.below(n)
	for i := range size {
		l = append(l, journal.Change{Block: first + (from+i*step)%n, Data: full(p.x.below(256))})
	}
	return l
}

// tried holds what an act answered against the power.
func (p *play) tried(what string, a act) {
	p.t.Helper()
	e := a.do(p.j)
	switch {
	case e == api.OK && !p.off:
		p.state = a.on(p.state)
		p.clean = len(a) == 0
	case e == api.ErrOff && !p.off:
		p.maybe, p.off = a.on(p.state), true
	case e != api.ErrOff:
		p.t.Fatalf("P4.2: %s = %d", what, e)
	}
}

// opens goes on with another journal of the device, that tells one of two things.
func (p *play) opens() {
	p.t.Helper()
	p.j = opened(p.t, p.d)
	got := homes(p.t, p.j, p.d.Blocks())
	if p.off && slices.Equal(got, p.maybe) {
		p.state = p.maybe
	}
	same(p.t, "P4.4: Open", got, p.state...)
	p.off, p.clean = false, false
}

// crashes goes on with what a crash leaves; the Open behind it may be cut, and crash, some times.
func (p *play) crashes() {
	p.t.Helper()
	if p.clean && !p.off {
		// What others wrote may be pending: that it is lost is the device's matter.
		p.d.Flush()
	}
	p.d = p.d.Crash(p.x.picks(p.x.below(70)))
	for range p.x.below(4) {
		p.d.Cut(p.x.below(4))
		journal.Open(p.d)
		p.d = p.d.Crash(p.x.picks(p.x.below(70)))
	}
	p.opens()
}

func (p *play) step() {
	p.t.Helper()
	switch p.x.below(24) {
	case 0, 1:
		p.tried("Sync", nil)
	case 2:
		if e := p.j.Commit(append(p.changes(), list(p.d.Blocks(), 1)...)); e != api.ErrArg {
			p.t.Fatalf("P4.2: Commit of no home = %d", e)
		}
	case 3:
		if e := p.j.Commit(nil); e != api.OK {
			p.t.Fatalf("P4.2: Commit of nothing = %d", e)
		}
	case 4, 5:
		p.d.Cut(p.x.below(40))
	case 6:
		p.crashes()
	case 7:
		p.d.Cut(1 << 20)
		p.opens()
	case 8:
		if p.clean && !p.off {
			p.others()
		}
	default:
		p.tried("Commit", p.changes())
	}
}

// others writes a home on the device itself.
func (p *play) others() {
	k, v := p.x.below(len(p.state)), p.x.below(256)
	if p.d.Write(first+k, full(v)) == api.OK {
		p.state = slices.Clone(p.state)
		p.state[k] = v
	}
}

func TestPlays(t *testing.T) {
	for seed := range 150 {
		p := begin(t, seed)
		for i := range 120 {
			p.step()
			same(t, "P4.3: Read", homes(t, p.j, p.d.Blocks()), p.state...)
			if t.Failed() {
				t.Fatalf("in the play %d, step %d", seed, i)
			}
		}
		p.crashes()
	}
}
