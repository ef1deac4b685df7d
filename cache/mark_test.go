package cache_test

import (
	"testing"

	"bollard/api"
	"bollard/cache"
)

// reads holds homes against what they must be.
func reads(t *testing.T, what string, c *cache.Cache, want map[int]int) {
	t.Helper()
	for k, v := range want {
		if b, e := c.Read(k); e != api.OK || told(b) != v {
			t.Errorf("P5.2: %s: Read(%d) = %d %d, want %d", what, k, told(b), e, v)
		}
	}
}

// TestMark: a transaction may go back to a Mark, more than once, and on from there.
func TestMark(t *testing.T) {
	_, _, c := made(t, 400)
	c.Begin()
	none := c.Mark()
	c.Write(300, full(1))
	c.Write(301, full(2))
	mark := c.Mark()
	for range 2 {
		c.Write(301, full(3))
		c.Write(302, full(4))
		c.Forget(300)
		reads(t, "since the Mark", c, map[int]int{300: 0, 301: 3, 302: 4})
		c.Return(mark)
		if c.Dirty() != 2 || !c.Open() {
			t.Errorf("P5.1: Dirty() = %d, Open() = %v, want 2 and true", c.Dirty(), c.Open())
		}
		reads(t, "behind Return", c, map[int]int{300: 1, 301: 2, 302: 0})
	}
	c.Return(none)
	if c.Dirty() != 0 || !c.Open() {
		t.Errorf("P5.1: Dirty() = %d, Open() = %v, want 0 and true", c.Dirty(), c.Open())
	}
	c.Return(mark)
	if e := c.Commit(); e != api.OK {
		t.Fatalf("P5.3: Commit() = %d", e)
	}
	reads(t, "behind Commit", c, map[int]int{300: 1, 301: 2, 302: 0})
}

// TestMarkWithoutATransaction: there is nothing to go back to.
func TestMarkWithoutATransaction(t *testing.T) {
	_, _, c := made(t, 400)
	mark := c.Mark()
	c.Return(mark)
	if c.Open() {
		t.Error("P5.1: Return opened a transaction")
	}
	c.Begin()
	c.Write(300, full(1))
	c.Return(mark)
	if !c.Open() || c.Dirty() != 0 {
		t.Errorf("P5.1: Dirty() = %d, Open() = %v, want 0 and true", c.Dirty(), c.Open())
	}
	var no *cache.Cache
	for _, n := range []*cache.Cache{no, {}} {
		n.Return(n.Mark())
		if n.Open() || n.Overfull() {
			t.Error("P5.4: a nil or zero Cache is open, or overfull")
		}
	}
}

// TestOverfull: it tells of a 61st block since Begin, and of nothing else.
func TestOverfull(t *testing.T) {
	_, _, c := made(t, 400)
	for range 2 {
		c.Begin()
		for k := range 60 {
			c.Write(300+k, full(1))
		}
		c.Write(0, full(1))
		c.Write(360, nil)
		c.Write(300, full(2))
		if c.Overfull() {
			t.Error("P5.2: 60 blocks are too many")
		}
		c.Write(360, full(1))
		if !c.Overfull() {
			t.Error("P5.2: 61 blocks are not too many")
		}
		c.Abort()
		if c.Overfull() {
			t.Error("P5.3: no transaction is too great")
		}
	}
}
