package broker_test

import (
	"testing"

	"bollard/api"
	"bollard/broker"
)

// isOff must be all calls of a broker whose device is off.
func (k *kit) isOff(promise string) {
	k.t.Helper()
	everOff(k.t, promise, k.b)
}

// everOff must be all calls of a broker that is none, or is dead, at whatever arguments.
func everOff(t *testing.T, promise string, b *broker.Broker) {
	t.Helper()
	for _, r := range []api.Request{
		{}, topics(), create("new", 1, keeps()), create("a", 1, keeps()), create("a/b", 0, api.Settings{}), remove("a"), remove("q"),
		add("a", 0, 0, 0, rec("k", "v", 1)), add("a", 0, 7, 0, rec("k", "v", 1)), add("a", 0, -1, 0), add("q", 0, 0, 0),
		fetch("a", 0, 0, 100), fetch("a", 9, 0, 0), list("a", 0, 0), list("q", 0, 0), commit("g", "a", 0, 5), commit("", "q", 0, -1),
		offset("g", "a", 0), offset("", "a", 0), {Kind: 9, ID: most}, {Kind: -1, ID: least}, {Kind: most}, {Kind: least, ID: -1},
	} {
		for _, now := range []int{0, -1, 50, least, most} {
			want := api.Response{Kind: r.Kind, ID: r.ID, Code: off}
			if told := b.Do(r, now); shown(told) != shown(want) {
				t.Fatalf("%s: Do(%v, %d) = %s, want %s", promise, r, now, shown(told), shown(want))
			}
		}
	}
	for _, topic := range append(wrongNames(), "a", "c", "q") {
		for _, n := range []int{least, -1, 0, 1, 8, most} {
			for i, call := range []func() (bool, api.Errno){
				func() (bool, api.Errno) { return b.Retain(topic, n, n) },
				func() (bool, api.Errno) { return b.Compact(topic, n, n) },
				func() (bool, api.Errno) { return b.Tidy(n) },
				b.Sweep,
			} {
				if done, e := call(); done || e != off {
					t.Fatalf("%s: call %d at %.20q and %d = %v %d, want ErrOff", promise, i, topic, n, done, e)
				}
			}
		}
	}
}

// TestNil: a nil and a zero Broker, at each call and at all arguments.
func TestNil(t *testing.T) {
	for _, b := range []*broker.Broker{nil, {}, new(broker.Broker)} {
		everOff(t, "P21.5", b)
	}
}

// TestOff: whichever call finds that the device is off, all that follows is ErrOff, though the power comes again.
func TestOff(t *testing.T) {
	old := stock(t, 900, 100)
	for i, call := range []func(k *kit) api.Errno{
		func(k *kit) api.Errno { return k.b.Do(create("new", 2, keeps()), 0).Code },
		func(k *kit) api.Errno { return k.b.Do(remove("a"), 0).Code },
		func(k *kit) api.Errno { return k.b.Do(add("a", 0, 0, 0, rec("k", "v", 1)), 0).Code },
		func(k *kit) api.Errno { return k.b.Do(add("a", 0, 7, 6, rec("k", "v", 1)), 0).Code },
		func(k *kit) api.Errno { return k.b.Do(commit("g", "a", 0, 5), 0).Code },
		func(k *kit) api.Errno { _, e := k.b.Retain("s", 0, 10000); return e },
		func(k *kit) api.Errno { _, e := k.b.Compact("c", 0, 10000); return e },
		func(k *kit) api.Errno { _, e := k.b.Sweep(); return e },
	} {
		k := old.fork()
		k.d.Cut(0)
		// What needs no op does not find it: it is answered as ever.
		k.is("P21.2")
		k.asks("P21.2", 0, add("a", 0, 7, 5, rec("k", "v", 1)), create("a", 1, keeps()), remove("q"), commit("", "a", 0, 5))
		if e := call(k); e != off {
			t.Fatalf("P21.2: call %d of a device that is off = %d, want ErrOff", i, e)
		}
		k.isOff("P21.2")
		k.d.Cut(1000)
		k.isOff("P21.2")
		k.remount()
		k.is("P21.4")
		k.goesOn("P21.4")
	}
}
