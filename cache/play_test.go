package cache_test

import (
	"slices"
	"testing"

	"bollard/api"
	"bollard/cache"
	"bollard/device"
)

// play is a cache beside plain lists of what its homes must be.
type play struct {
	t       *testing.T
	x       *dice
	d       *device.Device
	c       *cache.Cache
	state   []int       // what is committed
	maybe   []int       // behind a Commit that was cut: what may be there too
	written map[int]int // by the transaction
	open    bool
	cut     bool // a Commit was: there is no other one ahead of a crash
}

// start is a play on a new device.
func start(t *testing.T, seed int) *play {
	x := dice(seed)
	n := []int{first + 1, first + 3, 270, 320}[x.below(4)]
	d, _, c := made(t, n)
	return &play{t: t, x: &x, d: d, c: c, state: make([]int, n-first), written: map[int]int{}}
}

// over is the state, and what was written over it.
func (p *play) over() []int {
	out := slices.Clone(p.state)
	for k, v := range p.written {
		out[k-first] = v
	}
	return out
}

// must holds an error against what the lists ask for.
func (p *play) must(what string, got, must api.Errno) {
	p.t.Helper()
	if got != must {
		p.t.Fatalf("%s = %d, want %d", what, got, must)
	}
}

func (p *play) begin() {
	must := api.OK
	if p.open {
		must = api.ErrState
	}
	p.must("P5.1: Begin", p.c.Begin(), must)
	p.open = true
}

// write is one of a home, mostly.
func (p *play) write() {
	k, v, size := first-2+p.x.below(len(p.state)+4), p.x.below(256), 512
	if p.x.below(20) == 0 {
		size = p.x.below(512)
	}
	must := api.OK
	_, again := p.written[k]
	switch {
	case !p.open:
		must = api.ErrState
	case k < first || k >= p.d.Blocks() || size != 512:
		must = api.ErrArg
	case len(p.written) == 60 && !again:
		must = api.ErrBig
	default:
		p.written[k] = v
	}
	p.must("P5.2: Write", p.c.Write(k, full(v)[:size]), must)
}

// end is a Commit or an Abort; both end the transaction.
func (p *play) end(commits bool) {
	after := p.over()
	call := p.c.Abort
	if commits {
		call = p.c.Commit
	}
	switch got := call(); {
	case !p.open:
		p.must("P5.3: the end of no transaction", got, api.ErrState)
	case !commits || len(p.written) == 0:
		p.must("P5.3: the end without changes", got, api.OK)
	case got == api.OK && !p.cut:
		p.state = after
	default:
		p.must("P5.3: Commit", got, api.ErrOff)
		if !p.cut {
			p.maybe, p.cut = after, true
		}
	}
	p.open = false
	clear(p.written)
}

// crash goes on with what one leaves.
func (p *play) crash() {
	p.d = p.d.Crash(p.x.picks(p.x.below(90)))
	p.c = cache.New(opened(p.t, p.d))
	p.open = false
	clear(p.written)
	if p.cut && slices.Equal(homes(p.t, p.c, p.d.Blocks()), p.maybe) {
		p.state = p.maybe
	}
	p.cut = false
}

func (p *play) step() {
	switch p.x.below(40) {
	case 0, 1, 2:
		p.end(true)
	case 3:
		p.end(false)
	case 4, 5, 6, 7:
		p.begin()
	case 8:
		p.d.Cut(p.x.below(200))
	case 9:
		p.crash()
	default:
		most := []int{4, 4, 4, 80}[p.x.below(4)]
		for range p.x.below(most) {
			p.write()
		}
	}
}

func TestPlays(t *testing.T) {
	most := 0
	for seed := range 120 {
		p := start(t, seed)
		for i := range 200 {
			p.step()
			is(t, "in a play", p.c, p.open, len(p.written))
			same(t, "P5.2: in a play", homes(t, p.c, p.d.Blocks()), p.over()...)
			if t.Failed() {
				t.Fatalf("in the play %d, step %d", seed, i)
			}
			most = max(most, len(p.written))
		}
		p.crash()
		same(t, "P5.5: behind a play", homes(t, p.c, p.d.Blocks()), p.state...)
	}
	if most != 60 {
		t.Errorf("the plays had at most %d blocks in a transaction, not 60", most)
	}
}
