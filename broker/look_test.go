package broker_test

import (
	"fmt"
	"testing"

	"bollard/api"
)

// TestFetch: at each offset around Start and Next, with Max around the bytes of the batches there.
func TestFetch(t *testing.T) {
	k := stock(t, 900, 100)
	for range 2 { // then with a Start above 0, and with what compaction took out
		for name, x := range k.q.topics {
			for n, l := range x.logs {
				all := l.all()
				maxes := []int{1, most, most - 1, end, 1 << 32}
				size := 0
				for _, b := range all {
					size += bytesOf(b)
					maxes = append(maxes, size-1, size, size+1, bytesOf(b)-1, bytesOf(b), bytesOf(b)+1)
				}
				for at := l.start() - 2; at <= l.next()+2; at++ {
					for _, m := range append(maxes, 0, -1, least) {
						k.asks("P21.2", 0, fetch(name, n, at, m))
					}
				}
				k.asks("P21.2", 0, fetch(name, n, least, 1), fetch(name, n, most, 1))
			}
		}
		for k.retains("P21.3", "s", 0, 351) {
		}
		for k.compacts("P21.3", "c", 0, 29) {
		}
	}
	k.again("P21.2")
}

// TestFetchFirst: the first batch is told however great it is; those behind only while all have at most Max bytes.
func TestFetchFirst(t *testing.T) {
	k := made(t, 900, 100)
	k.asks("P21.2", 0, create("a", 1, keeps()))
	for range 3 {
		k.asks("P21.2", 0, add("a", 0, 0, 0, sized(300)...))
	}
	for most, want := range map[int]int{1: 1, 299: 1, 300: 1, 599: 1, 600: 2, 899: 2, 900: 3, 901: 3} {
		if told := k.asks("P21.2", 0, fetch("a", 0, 0, most)); len(told.Batches) != want || told.Next != 3 {
			t.Errorf("P21.2: fetch of %d bytes tells %d batches, want %d", most, len(told.Batches), want)
		}
	}
	if told := k.asks("P21.2", 0, fetch("a", 0, 3, 1)); len(told.Batches) != 0 || told.Code != ok {
		t.Errorf("P21.2: fetch at Next = %s", shown(told))
	}
}

// TestList: at times below, at, between and above those there are.
func TestList(t *testing.T) {
	k := stock(t, 900, 100)
	k.asks("P21.2", 0, create("e", 1, keeps()), create("l", 1, keeps()), add("l", 0, 0, 0, rec("k", "v", 50), rec("k", "v", 40)), add("l", 0, 0, 0, rec("k", "v", end)), add("l", 0, 0, 0, rec("k", "v", 0)))
	for range 2 {
		for name, x := range k.q.topics {
			for n, l := range x.logs {
				times := []int{0, 1, -1, end, end + 1, end - 1, most, least}
				for _, b := range l.all() {
					for _, r := range b.Records {
						times = append(times, r.Time-1, r.Time, r.Time+1)
					}
				}
				for _, time := range times {
					k.asks("P21.2", 0, list(name, n, time))
				}
			}
		}
		for k.retains("P21.3", "s", 0, 351) {
		}
		for k.compacts("P21.3", "c", 0, 29) {
		}
	}
	for time, want := range map[int]int{0: 0, 40: 0, 50: 0, 51: 2, end: 2, end + 1: 4} {
		if told := k.asks("P21.2", 0, list("l", 0, time)); told.Offset != want {
			t.Errorf("P21.2: list of the time %d = %s, want %d", time, shown(told), want)
		}
	}
}

// TestOffsets: offsets and times at their edges; the last one counts; each key has its own.
func TestOffsets(t *testing.T) {
	k := stock(t, 900, 100)
	for _, n := range []int{-1, -2, least, end + 1, end + 2, most} {
		k.answers("P21.2", arg, 0, commit("g", "a", 0, n))
		k.answers("P21.2", arg, n, commit("g", "a", 0, 0))
	}
	for _, n := range []int{0, 1, 1000, end - 1, end, 5, 4} { // above Next too: that is not looked at
		k.answers("P21.2", ok, 0, commit("g", "a", 0, n), offset("g", "a", 0), offset("g", "a", 1))
		k.answers("P21.2", ok, n, commit("e", "a", 0, 7), offset("e", "a", 0))
	}
	k.again("P21.2")
	k.answers("P21.2", none, 0, offset("e", "a", 1), offset("e", "c", 0), offset("e ", "a", 0))
}

// TestManyOffsets: 200 keys and no more, those of deleted topics too; those that are known go on.
func TestManyOffsets(t *testing.T) {
	k := made(t, 1500, 200)
	k.asks("P21.2", 0, create("a", 8, keeps()), create("b", 8, keeps()))
	var all []api.Request
	for i := range 200 {
		all = append(all, commit(fmt.Sprint("g", i/16), []string{"a", "b"}[i%2], i/2%8, i))
	}
	for i, r := range all {
		k.answers("P21.2", ok, i, r)
	}
	for range 2 {
		k.answers("P21.2", big, 5, commit("new", "a", 0, 5), commit("g12", "b", 7, 5))
		for i, r := range all {
			r.Offset += 1000
			k.answers("P21.2", ok, i, r, offset(r.Group, r.Topic, r.Part))
		}
		for k.tidies("P21.3", 7) {
			k.is("P21.3")
		}
		k.remount()
		k.is("P21.2")
	}
	k.answers("P21.2", ok, 0, remove("b"))
	k.answers("P21.2", big, 5, commit("new", "a", 0, 5))
	k.answers("P21.2", ok, 0, create("b", 1, keeps()), commit("g0", "a", 0, 5))
	k.answers("P21.2", big, 5, commit("g0", "b", 0, 5))
	k.again("P21.2")
}
