package world_test

import (
	"fmt"
	"slices"
	"testing"
)

// pickRows are picks of all sorts.
func pickRows(x *dice) [][]int {
	return append(picks(x), []int{}, []int{0}, []int{1}, []int{-1}, []int{least, most}, slices.Repeat([]int{most}, 1000), slices.Repeat([]int{least}, 70), slices.Repeat([]int{-1, 2}, 50))
}

// cutRows are cuts of all sorts.
func cutRows() [][]int {
	rising := make([]int, 40)
	for i := range rising {
		rising[i] = i
	}
	return [][]int{
		nil, {}, {0}, {1}, {2}, {-1}, {least}, {most}, {1000}, {0, 0}, {1, 0, -1, 5}, {most, least, 0},
		rising[:20], rising[:21], rising, slices.Repeat([]int{0}, 20), slices.Repeat([]int{0}, 21), slices.Repeat([]int{1}, 40), slices.Repeat([]int{-7, 1000}, 20), slices.Repeat([]int{0}, 5000),
	}
}

// TestCrash: a world in which nothing was cut crashes, with whatever picks and cuts, again and again: all is there.
func TestCrash(t *testing.T) {
	x := dice(1)
	for i, pick := range pickRows(&x) {
		k := stock(t)
		for j, cuts := range cutRows() {
			k.crashes("P23.3", pick, cuts)
			k.is("P23.5")
			if (i+j)%5 == 0 {
				k.asks("P23.5", add("a", 0, 7, k.m.q.topics["a"].logs[0].known[7].seq+1, rec("k", "v", j)), commit("g", "a", 1, 1000*i+j))
				k.steps("P23.2", 1+j%4, "s", 0)
			}
		}
		k.goesOn("P23.5")
	}
}

// TestCrashNew: a world that has nothing yet crashes.
func TestCrashNew(t *testing.T) {
	for _, cuts := range cutRows() {
		k := made(t, 600, 60)
		for range 3 {
			k.crashes("P23.3", []int{1, 1, 1}, cuts)
			k.is("P23.5")
		}
		k.goesOn("P23.5")
	}
}

// TestCrashGreat: the greatest device crashes as any does.
func TestCrashGreat(t *testing.T) {
	k := made(t, 65536, 4096)
	k.asks("P23.1", every()...)
	k.crashes("P23.3", []int{1}, []int{0, 1})
	k.is("P23.5")
	k.goesOn("P23.5")
}

// torn is a world on whose device lies what opening has to mend: files of what was begun, and bytes behind the last batches. No call of a world leaves such, since each is one transaction.
func torn(t *testing.T) *kit {
	t.Helper()
	k := stock(t)
	for i := range 3 {
		name := fmt.Sprintf("/topics/t%d-0/x%d.new", 2+i, i)
		for _, e := range []any{
			k.w.Files().Create(name), k.l.f.Create(name),
			k.w.Files().Append("/topics/t2-1/00000000000000000000", []byte(long(700))), k.l.f.Append("/topics/t2-1/00000000000000000000", []byte(long(700))),
		} {
			if e != ok {
				t.Fatalf("the test's own files cannot be torn: %d", e)
			}
		}
	}
	k.level("P23.1", "what is torn")
	return k
}

// back is how many ops coming back takes.
func back(t *testing.T, k *kit, pick, cuts []int) int {
	t.Helper()
	k.crashes("P23.3", pick, cuts)
	k.is("P23.5")
	return k.w.Ops()
}

// TestComingBack: the power goes at each op of coming back, and once more, whatever the crashes leave.
func TestComingBack(t *testing.T) {
	all := back(t, torn(t), nil, nil)
	if again := back(t, torn(t), nil, []int{most}); all < 10 || again >= 5 {
		t.Fatalf("the test's own coming back takes %d ops, and then %d", all, again)
	}
	x := dice(2)
	seen := map[int]int{}
	for cut := -1; cut < all+3; cut++ {
		for i, pick := range pickRows(&x)[:7] {
			k := torn(t)
			seen[back(t, k, pick, [][]int{{cut}, {cut, cut}, {cut / 2, cut}, {cut, 0, cut + 1, -1, cut}, slices.Repeat([]int{cut}, 20)}[(cut+1+i)%5])]++
			if i == (cut+1)%7 {
				k.goesOn("P23.5")
			}
		}
	}
	if len(seen) < 2 || seen[all] == 0 {
		t.Errorf("P23.3: coming back took %v ops", seen)
	}
}

// TestCrashPicks: each crash within a Crash is one with its picks.
func TestCrashPicks(t *testing.T) {
	all := back(t, torn(t), nil, nil)
	lost, kept := 0, 0
	for cut := range all {
		if back(t, torn(t), nil, []int{cut}) == all {
			lost++
		}
		if back(t, torn(t), slices.Repeat([]int{1}, 300), []int{cut}) < all {
			kept++
		}
	}
	// Cut at its last op, mending is lost by a crash without picks alone.
	if back(t, torn(t), nil, []int{all - 1}) != all || lost < all-1 || kept == 0 {
		t.Errorf("P23.3: of %d cuts, without picks %d left nothing mended; with picks %d left something", all, lost, kept)
	}
}

// TestTwentyCuts: the first 20 cuts are made, and no more.
func TestTwentyCuts(t *testing.T) {
	all := back(t, torn(t), nil, nil)
	for n := range 45 {
		mended := back(t, torn(t), nil, append(slices.Repeat([]int{0}, n), most)) < all
		if mended != (n < 20) {
			t.Errorf("P23.3: behind %d cuts that leave nothing mended, one that leaves all mended: mended %v", n, mended)
		}
	}
	if long := append(slices.Repeat([]int{0}, 20), slices.Repeat([]int{most}, 3000)...); back(t, torn(t), nil, long) != all {
		t.Errorf("P23.3: more than 20 cuts are made")
	}
}

// TestCrashOff: a world that is off is on behind a Crash, however often that is.
func TestCrashOff(t *testing.T) {
	k := stock(t)
	x := dice(3)
	for i := range 60 {
		r := add("a", 0, 7, k.m.q.topics["a"].logs[0].known[7].seq+1, rec("k", fmt.Sprint("v", i), i))
		k.cuts(x.below(6))
		done, row := byDo(r)(k)
		if done == 0 {
			k.isOff("P23.2")
		}
		k.crashes("P23.3", pick(&x, pickRows(&x)...), pick(&x, cutRows()...))
		if done == 0 && !k.matches(row[0]) {
			k.m.q = row[1]
		}
		k.is("P23.5")
		k.asks("P23.5", r) // sent again, it is there once
		k.is("P23.5")
		k.ticks("P23.3", 1)
	}
}

// TestCrashTime: the time stays.
func TestCrashTime(t *testing.T) {
	k := made(t, 900, 100)
	k.asks("P23.1", create("s", 1, sheds()))
	for _, n := range []int{0, 1, 5, 1 << 33, most} {
		k.ticks("P23.1", n)
		for _, cuts := range [][]int{nil, {0, 1}, {5, 0}} {
			k.crashes("P23.3", nil, cuts)
			k.ticks("P23.3", 0, -5)
			k.asks("P23.3", commit("g", "s", 0, n), add("s", 0, 0, 0, rec("k", long(450), min(n, end))))
			k.steps("P23.3", retain, "s", 0)
		}
		k.cuts(2)
		byDo(commit("g", "s", 0, 5))(k)
		k.ticks("P23.1", 3)
		k.crashes("P23.3", nil, nil)
		k.is("P23.3")
	}
}
