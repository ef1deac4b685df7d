package broker_test

import (
	"fmt"
	"slices"
	"testing"

	"bollard/api"
)

// stepFails must be an error of a call that is no request, with which nothing changes.
func (k *kit) stepFails(promise string, want api.Errno, call func() (bool, api.Errno)) {
	k.t.Helper()
	k.still(promise, "what is refused", func() {
		k.t.Helper()
		if done, e := call(); done || e != want {
			k.t.Fatalf("%s: a call = %v %d, want %d", promise, done, e, want)
		}
	})
}

// TestStepsNone: topics and parts that are not there.
func TestStepsNone(t *testing.T) {
	k := stock(t, 900, 100)
	for _, topic := range append(wrongNames(), "q", "gone", "A", "aa") {
		for _, now := range []int{0, 5000, least, most} {
			k.stepFails("P21.3", none, func() (bool, api.Errno) { return k.b.Retain(topic, 0, now) })
			k.stepFails("P21.3", none, func() (bool, api.Errno) { return k.b.Compact(topic, 0, now) })
		}
	}
	for _, part := range []int{-1, 1, 2, 8, least, most} {
		k.stepFails("P21.3", none, func() (bool, api.Errno) { return k.b.Retain("s", part, 5000) })
		k.stepFails("P21.3", none, func() (bool, api.Errno) { return k.b.Compact("c", part, 5000) })
	}
	k.stepFails("P21.3", none, func() (bool, api.Errno) { return k.b.Compact("a", 2, 5000) })
	k.again("P21.3")
}

// TestRetainBytes: while the sealed segments have more than Bytes the first one goes, never the active one.
func TestRetainBytes(t *testing.T) {
	for _, bytes := range []int{-1, 0, 1, 299, 300, 301, 599, 600, 601, 899, 900, 901, 1 << 40} {
		k := made(t, 900, 100)
		set := keeps()
		set.Bytes = bytes
		k.asks("P21.2", 0, create("a", 2, set))
		for range 4 {
			k.asks("P21.2", 0, add("a", 1, 0, 0, sized(300)...))
		}
		gone := 0
		for k.retains("P21.3", "a", 1, 0) {
			gone++
			k.is("P21.3")
		}
		if want := max(0, 3-bytes/300); bytes >= 0 && gone != want || bytes < 0 && gone != 0 {
			t.Errorf("P21.3: with Bytes %d Retain was true %d times", bytes, gone)
		}
		k.retains("P21.3", "a", 0, most)
		k.again("P21.3")
		k.goesOn("P21.3")
	}
}

// TestRetainAge: a sealed segment goes once now is more than Age above its last time.
func TestRetainAge(t *testing.T) {
	for _, age := range []int{-1, 0, 1, 50, end} {
		for _, now := range []int{least, -1, 0, 99, 100, 101, 149, 150, 151, 200, 201, 250, 251, end, end + 100, end + 101, most} {
			k := made(t, 900, 100)
			set := keeps()
			set.Age = age
			k.asks("P21.2", 0, create("a", 1, set))
			for i := range 3 {
				k.asks("P21.2", 0, add("a", 0, 0, 0, rec("k", long(300), 100+100*i), rec("k", "v", 90)))
			}
			gone := 0
			for k.retains("P21.3", "a", 0, now) {
				gone++
			}
			want := 0
			for i := range 2 {
				if age >= 0 && now > 0 && now-age > 100+100*i {
					want++
				}
			}
			if gone != want {
				t.Errorf("P21.3: with Age %d at %d Retain was true %d times, want %d", age, now, gone, want)
			}
			k.again("P21.3")
		}
	}
}

// TestCompact: of a topic with Compact what is behind a key goes, segment by segment; each key's last value stays. Of one without nothing does.
func TestCompact(t *testing.T) {
	for _, compact := range []bool{true, false} {
		k := made(t, 900, 100)
		set := thins()
		set.Compact = compact
		k.asks("P21.2", 0, create("a", 2, set))
		for i := range 12 {
			k.asks("P21.2", 0, add("a", 1, 3, i, rec(fmt.Sprint("k", i%3), long(150+i), i), rec(fmt.Sprint("l", i), "", 5)))
		}
		lasts := k.q.topics["a"].logs[1].lasts()
		done := 0
		for k.compacts("P21.3", "a", 1, 8) {
			done++
			k.is("P21.3")
		}
		if compact != (done > 3) {
			t.Errorf("P21.3: of Compact %v it was true %d times", compact, done)
		}
		k.again("P21.3")
		told := k.asks("P21.6", 0, fetch("a", 1, 0, most))
		for key, val := range lasts {
			if got := (&plainLog{row: []plainSegment{{batches: told.Batches}}}).lasts()[key]; got != val {
				t.Errorf("P21.6: the last value of %q is %q, was %q", key, got, val)
			}
		}
		k.compacts("P21.3", "a", 0, most)
		k.goesOn("P21.3")
	}
}

// lasts is each key's last value.
func (l *plainLog) lasts() map[string]string {
	m := map[string]string{}
	for _, b := range l.all() {
		for _, r := range b.Records {
			if r.HasVal {
				m[r.Key] = "=" + r.Val
			} else {
				m[r.Key] = "none"
			}
		}
	}
	return m
}

// TestTombstones: one that is the last of its key goes once now is more than Delay above its time.
func TestTombstones(t *testing.T) {
	for _, delay := range []int{0, 1, 5, end} {
		for _, now := range []int{least, -1, 0, 9, 10, 11, 12, 15, 16, end, end + 10, end + 11, most} {
			k := made(t, 900, 100)
			set := thins()
			set.Delay = delay
			k.asks("P21.2", 0, create("c", 1, set), add("c", 0, 0, 0, rec("x", long(100), 9), tomb("x", 10)), add("c", 0, 0, 0, rec("y", long(400), 9)))
			done := k.compacts("P21.3", "c", 0, now) // x's value goes in any case
			if !done {
				t.Errorf("P21.3: Compact at %d = false", now)
			}
			k.compacts("P21.3", "c", 0, now)
			told := k.asks("P21.3", 0, fetch("c", 0, 0, most))
			gone := len(told.Batches) == 1
			if want := now > 0 && now-delay > 10; gone != want {
				t.Errorf("P21.3: with Delay %d at %d the tombstone is gone: %v", delay, now, gone)
			}
			k.again("P21.3")
		}
	}
}

// TestTidy is 18's Compact: what was committed again goes, what is known stays.
func TestTidy(t *testing.T) {
	k := stock(t, 900, 100)
	k.still("P21.3", "Tidy of one segment", func() {
		if k.tidies("P21.3", 5) {
			t.Error("P21.3: Tidy of one segment = true")
		}
	})
	for i := range 150 {
		k.asks("P21.2", i, commit(fmt.Sprint("g", i%(5+i/10)), "a", i%2, i))
	}
	done := 0
	for _, now := range []int{5, least, most, 0} {
		for k.tidies("P21.3", now) {
			done++
			k.is("P21.3")
		}
	}
	if done < 3 {
		t.Errorf("P21.3: Tidy was true %d times", done)
	}
	k.again("P21.3")
	k.goesOn("P21.3")
}

// TestSweep: all that deleted topics left goes, one thing a call, and nothing that a topic has.
func TestSweep(t *testing.T) {
	k := made(t, 1500, 300)
	k.still("P21.3", "Sweep of nothing", func() {
		if k.sweeps("P21.3") {
			t.Error("P21.3: Sweep of nothing = true")
		}
	})
	for i := range 11 {
		k.asks("P21.2", 0, create(fmt.Sprint("a", i), 1+i%3, keeps()))
		for seq := range i % 4 {
			k.asks("P21.2", 0, add(fmt.Sprint("a", i), 0, 9, seq, sized(400)...))
		}
	}
	_, free := k.f.Free()
	for _, name := range []string{"a9", "a2", "a10", "a5"} {
		k.asks("P21.2", 0, remove(name))
	}
	calls := 0
	for k.sweeps("P21.3") {
		calls++
		k.is("P21.3")
		if calls%5 == 0 {
			k.remount()
		}
	}
	if _, now := k.f.Free(); now != free+calls {
		t.Errorf("P21.3: %d calls freed %d inodes", calls, now-free)
	}
	if len(k.q.left) > 0 || calls != 29 {
		t.Errorf("P21.3: behind %d calls there are %q still", calls, k.q.left)
	}
	k.still("P21.3", "Sweep of nothing", func() { k.sweeps("P21.3") })
	k.again("P21.3")
	k.goesOn("P21.3")
}

// TestEmptied: what compaction left empty goes by its age, at once; offsets go on.
func TestEmptied(t *testing.T) {
	k := made(t, 900, 100)
	set := thins()
	set.Age = end
	k.asks("P21.2", 0, create("c", 1, set))
	for i := range 4 {
		k.asks("P21.2", 0, add("c", 0, 7, i, rec("k", long(400), 5+i)))
	}
	for k.compacts("P21.3", "c", 0, 0) {
	}
	k.is("P21.3")
	for k.retains("P21.3", "c", 0, least) {
		k.is("P21.3")
	}
	told := k.asks("P21.3", 0, fetch("c", 0, 3, most))
	if told.Start != 3 || told.Next != 4 || len(told.Batches) != 1 || !slices.Equal(k.folders()["t1-0"], []string{"00000000000000000003", "producers"}) {
		t.Errorf("P21.3: there is %s", shown(told))
	}
	k.again("P21.3")
	k.goesOn("P21.3")
}
