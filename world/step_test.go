package world_test

import (
	"fmt"
	"testing"

	"bollard/api"
)

// wrongKinds are those that no step has.
func wrongKinds() []int {
	return []int{least, least + 1, -1 << 32, -4, -1, 0, 5, 6, 8, 16, 255, 257, 260, 1 << 16, 1<<32 + 1, 1<<32 + 4, most - 1, most}
}

// TestStepKinds: what is no kind is ErrArg, whatever the topic and the part, and changes nothing.
func TestStepKinds(t *testing.T) {
	k := stock(t)
	ops := k.w.Ops()
	for _, kind := range wrongKinds() {
		for _, topic := range []string{"a", "c", "s", "q", "", "a/b", long(51)} {
			for _, part := range []int{0, 1, -1, 8, least, most} {
				if done, e := k.w.Step(kind, topic, part); done || e != arg {
					t.Fatalf("P23.2: Step(%d, %q, %d) = %v %d, want ErrArg", kind, topic, part, done, e)
				}
			}
		}
	}
	if k.w.Ops() != ops {
		t.Fatalf("P23.2: steps that are none wrote")
	}
	k.is("P23.2")
	k.goesOn("P23.2")
}

// TestStepNone: topics and parts that are not there are ErrNone of Retain and Compact; Tidy and Sweep do not look at them.
func TestStepNone(t *testing.T) {
	topics := []string{"q", "", "gone", "a/b", ".", "..", "A", "a\x00", long(50), long(51), long(100000), "t1-0"}
	parts := []int{least, -1, 1, 2, 8, 1 << 32, most}
	k := stock(t)
	for _, kind := range []int{retain, compact} {
		for _, topic := range topics {
			for _, part := range append(parts, 0) {
				if k.steps("P23.2", kind, topic, part); k.code(kind, topic, part) != none {
					t.Fatalf("P23.2: Step(%d, %.60q, %d) is not ErrNone", kind, topic, part)
				}
			}
		}
		for _, part := range parts {
			if k.steps("P23.2", kind, "s", part); k.code(kind, "s", part) != none {
				t.Fatalf("P23.2: Step(%d, s, %d) is not ErrNone", kind, part)
			}
		}
	}
	k.is("P23.2")
	for _, kind := range []int{tidy, sweep} {
		k := stock(t)
		done := 0
		for i, topic := range topics {
			if k.steps("P23.2", kind, topic, parts[i%len(parts)]) {
				done++
			}
		}
		if done == 0 {
			t.Errorf("P23.2: Step(%d) of topics that are not there did nothing", kind)
		}
		k.is("P23.2")
	}
}

// code is what a Step answers.
func (k *kit) code(kind int, topic string, part int) api.Errno {
	_, e := k.w.Step(kind, topic, part)
	return e
}

// TestSteps: each kind does what it does, until it tells false.
func TestSteps(t *testing.T) {
	for _, x := range []struct {
		kind  int
		topic string
		want  int // how often it tells true
	}{
		{retain, "a", 0}, {retain, "s", 3}, {compact, "c", 3}, {compact, "a", 0}, {tidy, "", 1}, {sweep, "", 3},
	} {
		k := stock(t)
		if x.kind == retain { // what is too old goes, however few bytes it has
			k.ticks("P23.1", 1000)
		}
		got := 0
		for k.steps("P23.2", x.kind, x.topic, 0) {
			if got++; got > 100 {
				break
			}
			k.is("P23.2")
		}
		if got != x.want {
			t.Errorf("P23.2: Step(%d, %q, 0) tells true %d times, want %d", x.kind, x.topic, got, x.want)
		}
		k.is("P23.2")
		k.crashes("P23.3", []int{1, 0, 1}, []int{1})
		k.is("P23.5")
		k.goesOn("P23.5")
	}
}

// TestStepTime: steps are done at the world's time: what is too old by one tick goes, and not a tick earlier.
func TestStepTime(t *testing.T) {
	k := made(t, 900, 100)
	aged := api.Settings{Segment: 512, Bytes: -1, Age: 10}
	k.asks("P23.1", create("aged", 1, aged), create("thin", 1, thins()))
	for i := range 8 {
		k.asks("P23.1", add("aged", 0, 0, 0, rec("k", long(400), 3*i)), add("thin", 0, 0, 0, tomb(fmt.Sprint(i), 3*i), rec(fmt.Sprint("long", i), long(400), 3*i)))
	}
	seen := [5]int{}
	for range 45 {
		for _, x := range []struct {
			kind  int
			topic string
		}{{retain, "aged"}, {compact, "thin"}, {retain, "thin"}, {compact, "aged"}} {
			if k.steps("P23.2", x.kind, x.topic, 0) {
				seen[x.kind]++
			}
		}
		k.ticks("P23.1", 1)
	}
	if seen[retain] < 5 || seen[compact] < 5 {
		t.Errorf("the test's own steps are done %v times", seen)
	}
	k.is("P23.2")
}
