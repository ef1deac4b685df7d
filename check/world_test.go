package check_test

import (
	"fmt"
	"slices"
	"strings"
	"testing"

	"bollard/api"
	"bollard/world"
)

// Kinds of steps.
const (
	retain  = 1
	compact = 2
	tidy    = 3
	sweep   = 4
)

// home is a topic of a world.
type home struct {
	name  string
	parts int
	set   api.Settings
	life  int
}

// homes are topics of each kind of settings: all is kept, what is behind a key goes, what is too much or too old goes, and both.
func homes() []*home {
	return []*home{
		{"keeps", 2, api.Settings{Segment: 512, Bytes: -1, Age: -1}, 0},
		{"thins", 2, api.Settings{Segment: 600, Bytes: -1, Age: -1, Compact: true, Delay: 5}, 0},
		{"sheds", 2, api.Settings{Segment: 512, Bytes: 1500, Age: 60}, 0},
		{"thins and sheds", 1, api.Settings{Segment: 800, Bytes: 4000, Age: 90, Compact: true}, 0},
	}
}

// tally is how often a play did what it should do.
type tally struct {
	fetches int
	batches int
	records int
	below   int // of fetches whose first batch begins below from
	again   int
	retains int
	thinned int
	crashes int
	cutOff  int
}

// broker is a world, and a Log that sees all that its fetches tell.
type broker struct {
	*kit
	w     *world.World
	x     *dice
	homes []*home
	seqs  map[string]int // of each topic, part and producer: the number that comes next, as far as it is known
	n     tally
}

func begun(t *testing.T, seed int) *broker {
	t.Helper()
	w, e := world.New(5000, 1500)
	if e != api.OK {
		t.Fatalf("P24.2: there is no world: %d", e)
	}
	x := dice(seed)
	b := &broker{kit: made(t), w: w, x: &x, homes: homes(), seqs: map[string]int{}}
	for _, h := range b.homes {
		b.create(h)
	}
	return b
}

// create makes a topic, which must go well.
func (b *broker) create(h *home) {
	b.t.Helper()
	if told := b.w.Do(api.Request{Kind: api.ReqCreate, Topic: h.name, Parts: h.parts, Set: h.set}); told.Code != api.OK {
		b.t.Fatalf("P24.2: create %s = %d", h.name, told.Code)
	}
}

// records are a few, some without a value, and some, if the topic may have them, without a key.
func (b *broker) records(h *home) (l []api.Record) {
	x := b.x
	for range 1 + x.below(5) {
		r := rec(fmt.Sprint("key", x.below(6)), strings.Repeat("v", x.below(200))+fmt.Sprint(x.below(1000)), b.w.Now()+x.below(3))
		switch x.below(6) {
		case 0:
			r.HasVal, r.Val = false, ""
		case 1:
			r.HasKey, r.Key = h.set.Compact, ""
		}
		l = append(l, r)
	}
	return l
}

// append is a batch of nobody's, or of a producer's: the next one, one that is there, or one that leaves one out. Whoever is told nothing sends it again later.
func (b *broker) append(h *home, part int) {
	x := b.x
	r := api.Request{Kind: api.ReqAppend, Topic: h.name, Part: part, Producer: x.below(5), Records: b.records(h)}
	who := fmt.Sprint(h.name, part, r.Producer)
	if r.Producer > 0 {
		r.Seq = max(0, b.seqs[who]+pick(x, 0, 0, 0, 0, 0, -1, 1))
	}
	told := b.w.Do(r)
	switch {
	case told.Code != api.OK || r.Producer == 0:
	case r.Seq < b.seqs[who]:
		b.n.again++
	default:
		b.seqs[who] = r.Seq + 1
	}
}

// tells is what a fetch tells; false: it is refused.
func (b *broker) tells(h *home, part, from, most int) (fetch, bool) {
	told := b.w.Do(api.Request{Kind: api.ReqFetch, Topic: h.name, Part: part, Offset: from, Max: most})
	return fetch{fmt.Sprint(h.name, "#", h.life), part, told.Start, told.Next, from, told.Batches}, told.Code == api.OK
}

// fetch shows the Log what a fetch tells.
func (b *broker) fetch(h *home, part, from, most int) {
	b.t.Helper()
	f, right := b.tells(h, part, from, most)
	if !right {
		return
	}
	if got := b.l.Saw(f.topic, f.part, f.start, f.next, f.from, f.batches); got != 0 {
		b.t.Fatalf("P24.2: Saw(%s) = %d, want 0", short(f), got)
	}
	b.n.fetches++
	b.n.batches += len(f.batches)
	for i, one := range f.batches {
		b.n.records += len(one.Records)
		if i == 0 && one.Base < from {
			b.n.below++
		}
	}
}

// offset is one of those that are there, mostly, or near them.
func (b *broker) offset(h *home, part int) int {
	told := b.w.Do(api.Request{Kind: api.ReqList, Topic: h.name, Part: part})
	if told.Code != api.OK {
		return b.x.below(20)
	}
	return told.Start + b.x.below(told.Next-told.Start+3) - 1
}

// all shows the Log all that the world has, in fetches of that Max, each of which goes on where the one ahead of it ended.
func (b *broker) all(max int) {
	b.t.Helper()
	for _, h := range b.homes {
		for part := range h.parts {
			told := b.w.Do(api.Request{Kind: api.ReqList, Topic: h.name, Part: part})
			for at := told.Start; at < told.Next; {
				b.fetch(h, part, at, max)
				f, _ := b.tells(h, part, at, max)
				if len(f.batches) == 0 {
					break
				}
				last := f.batches[len(f.batches)-1]
				at = last.Base + last.Span
			}
			b.fetch(h, part, told.Start, most)
			b.fetch(h, part, told.Next, max)
		}
	}
}

// step is one of upkeep.
func (b *broker) step(h *home, part int) {
	kind := pick(b.x, retain, retain, compact, compact, compact, tidy, sweep)
	if done, _ := b.w.Step(kind, h.name, part); done && kind == retain {
		b.n.retains++
	} else if done && kind == compact {
		b.n.thinned++
	}
}

// again lets a topic's life end, and another one begin, under the same name.
func (b *broker) again(h *home) {
	b.t.Helper()
	if told := b.w.Do(api.Request{Kind: api.ReqDelete, Topic: h.name}); told.Code != api.OK {
		b.t.Fatalf("P24.2: delete %s = %d", h.name, told.Code)
	}
	b.create(h)
	b.nextLife(h)
}

// nextLife is a new name for the Log, and numbers of producers from 0 on.
func (b *broker) nextLife(h *home) {
	h.life++
	for part := range h.parts {
		for producer := range 5 {
			delete(b.seqs, fmt.Sprint(h.name, part, producer))
		}
	}
}

// move is a drawn call.
func (b *broker) move() {
	b.t.Helper()
	h := pick(b.x, b.homes...)
	part := b.x.below(h.parts)
	switch n := b.x.below(100); {
	case n < 45:
		b.append(h, part)
	case n < 70:
		b.fetch(h, part, b.offset(h, part), pick(b.x, 1, 100, 300, 1000, 6000, b.x.below(3000), most))
	case n < 93:
		b.step(h, part)
	case n < 97:
		b.w.Tick(b.x.below(10))
	case n < 99:
		b.w.Do(api.Request{Kind: api.ReqCommit, Group: "g", Topic: h.name, Part: part, Offset: b.x.below(100)})
	default:
		b.all(pick(b.x, 1, 500, 5000))
	}
}

// isOff is whether the world's power is off.
func (b *broker) isOff() bool {
	_, e := b.w.Step(retain, b.homes[0].name, 0)
	return e == api.ErrOff
}

// crash is one with drawn picks and cuts, which must go well.
func (b *broker) crash() {
	b.t.Helper()
	x := b.x
	var picks, cuts []int
	for range x.below(120) {
		picks = append(picks, pick(x, x.below(4), x.below(4), -x.below(4), most, least))
	}
	for range pick(x, 0, 0, 1, 2, 3) {
		cuts = append(cuts, x.below(40))
	}
	if e := b.w.Crash(picks, cuts); e != api.OK {
		b.t.Fatalf("P24.2: Crash = %d", e)
	}
	b.n.crashes++
}

// add is all that was done.
func (n *tally) add(m tally) {
	n.fetches += m.fetches
	n.batches += m.batches
	n.records += m.records
	n.below += m.below
	n.again += m.again
	n.retains += m.retains
	n.thinned += m.thinned
	n.crashes += m.crashes
	n.cutOff += m.cutOff
}

// enough must be what all plays of a test did: else they show nothing.
func (n tally) enough(t *testing.T) {
	t.Helper()
	for what, count := range map[string]int{
		"fetches": n.fetches, "batches": n.batches, "records": n.records, "fetches from within a batch": n.below, "batches sent again": n.again,
		"segments that were removed": n.retains, "segments that were written anew": n.thinned, "crashes": n.crashes, "calls cut off": n.cutOff,
	} {
		if count < 100 {
			t.Errorf("P24.2: the plays have only %d %s", count, what)
		}
	}
}

// TestWorlds: of the fetches of worlds 0 is told ever, whatever is appended, retained, compacted, cut off, and crashes.
func TestWorlds(t *testing.T) {
	const seeds = 24
	var n [seeds]tally
	t.Run("worlds", func(t *testing.T) {
		for seed := range seeds {
			t.Run(fmt.Sprint(seed), func(t *testing.T) {
				t.Parallel()
				b := begun(t, seed)
				for range 14 {
					b.era()
				}
				n[seed] = b.n
			})
		}
	})
	var all tally
	for _, one := range n {
		all.add(one)
	}
	all.enough(t)
}

// era is a row of moves until the power goes, if it does, and a crash.
func (b *broker) era() {
	b.t.Helper()
	calls := 40 + b.x.below(60)
	if b.x.below(4) > 0 {
		b.w.Cut(b.x.below(400))
	}
	for range calls {
		b.move()
	}
	if b.isOff() {
		b.n.cutOff++
	}
	b.crash()
	b.all(pick(b.x, 1, 200, 1000, 6000, most))
}

// TestLives: of each life of a topic, too: it has a name of its own for the Log.
func TestLives(t *testing.T) {
	for seed := range 6 {
		b := begun(t, 900+seed)
		for range 5 {
			for range 60 {
				b.move()
			}
			b.all(700)
			b.again(pick(b.x, b.homes...))
			b.crash()
			b.all(300)
		}
	}
}

// copied is batches in memory of their own.
func copied(l []api.Batch) []api.Batch {
	l = slices.Clone(l)
	for i := range l {
		l[i].Records = slices.Clone(l[i].Records)
	}
	return l
}

// wrong are fetches that a broker could not tell behind one that is right: of each what must be told.
func wrong(f fetch) map[int][]fetch {
	l := map[int][]fetch{}
	with := func(want int, change func(g *fetch)) {
		g := f
		g.batches = copied(f.batches)
		change(&g)
		l[want] = append(l[want], g)
	}
	with(1, func(g *fetch) { g.next--; g.batches = nil })
	with(1, func(g *fetch) { g.start-- })
	with(1, func(g *fetch) { g.start = g.next + 1 })
	if len(f.batches) == 0 {
		return l
	}
	first, last := f.batches[0], f.batches[len(f.batches)-1]
	with(2, func(g *fetch) { g.from = max(first.Base+first.Span, first.Base+1) })
	with(2, func(g *fetch) { g.start = first.Base + first.Span })
	with(2, func(g *fetch) { g.batches[len(g.batches)-1].Span = g.next - last.Base + 1 })
	with(2, func(g *fetch) { g.batches = append(g.batches, last) })
	with(2, func(g *fetch) { g.batches = slices.Insert(g.batches, 0, first) })
	with(3, func(g *fetch) { g.batches[0].Records[0].Time++ })
	with(3, func(g *fetch) { l := g.batches[len(g.batches)-1].Records; l[len(l)-1].Val += "x" })
	for _, one := range f.batches {
		if one.Producer > 0 { // it comes in a second time
			with(4, func(g *fetch) {
				one.Base = g.next
				g.next += one.Span
				g.batches = append(g.batches, one)
			})
		}
	}
	return l
}

// TestWrongBrokers: what a world's fetches tell, with one thing in it that can't be: that is told, and the world's own fetches are right behind it.
func TestWrongBrokers(t *testing.T) {
	var count [5]int
	for seed := range 4 {
		b := begun(t, 400+seed)
		for step := range 300 {
			b.move()
			h := pick(b.x, b.homes...)
			part := b.x.below(h.parts)
			from, max := b.offset(h, part), pick(b.x, 1, 1000, most)
			b.fetch(h, part, from, max)
			f, right := b.tells(h, part, from, max)
			if !right {
				continue
			}
			for want, l := range wrong(f) {
				for _, g := range l {
					if got := b.l.Saw(g.topic, g.part, g.start, g.next, g.from, g.batches); got != want {
						t.Fatalf("P24.2: behind %s Saw(%s) = %d, want %d", short(f), short(g), got, want)
					}
					count[want]++
				}
			}
			b.fetch(h, part, from, max)
			if step%100 == 99 {
				b.crash()
			}
		}
	}
	for told, n := range count {
		if told > 0 && n < 100 {
			t.Errorf("P24.2: %d is told only %d times", told, n)
		}
	}
}
