package shell_test

import (
	"fmt"
	"testing"

	"bollard/shell"
	"bollard/world"
)

// TestWorld: a script begins with a world of 3000 blocks and 300 inodes, at the time 0, and the request 0 comes next.
func TestWorld(t *testing.T) {
	p := shell.Begun()
	w, e := world.New(3000, 300)
	if e != 0 {
		t.Fatalf("P23.1: New(3000, 300) = %d", e)
	}
	if got, want := state(p.Asked(), p.World()), state(0, w); got != want || w.Now() != 0 {
		t.Errorf("P25.1: at the beginning: %s, want %s", got, want)
	}
	blocks, inodes := p.World().Free()
	for _, x := range [][2]int{{2999, 300}, {3001, 300}, {3000, 299}, {3000, 301}} {
		if w, _ := world.New(x[0], x[1]); fmt.Sprint(w.Free()) == fmt.Sprint(blocks, inodes) {
			t.Errorf("P25.1: a world of %d blocks and %d inodes has as many free as a script's", x[0], x[1])
		}
	}
}
