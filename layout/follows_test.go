package layout_test

import (
	"testing"

	"bollard/api"
	"bollard/layout"
)

// everyPlan hands on what Make told, at many n and inodes.
func everyPlan(t *testing.T, look func(p api.Plan)) {
	t.Helper()
	seen := 0
	try := func(n, inodes int) {
		if p, e := layout.Make(n, inodes); e == api.OK {
			look(p)
			seen++
		}
	}
	for _, n := range someBlocks() {
		for inodes := 1; inodes <= 4096; inodes += 3 {
			try(n, inodes)
		}
	}
	for _, inodes := range someInodes() {
		for n := 1; n <= 65536; n += 29 {
			try(n, inodes)
		}
	}
	if seen < 40000 {
		t.Errorf("P6.4: of so many n and inodes only %d have a plan", seen)
	}
}

// TestThereAndBack: what was laid is read.
func TestThereAndBack(t *testing.T) {
	everyPlan(t, func(p api.Plan) {
		if q, e := layout.Decode(layout.Encode(p)); q != p || e != api.OK {
			t.Fatalf("P6.4: Decode(Encode(%v)) = %v %d", p, q, e)
		}
	})
}

// TestNoHoles: each block behind the superblock lies in one area, and each area has as many as it needs.
func TestNoHoles(t *testing.T) {
	everyPlan(t, func(p api.Plan) {
		ends := []int{api.Journal + 1, p.BlockMap, p.Table, p.Data, p.Blocks}
		starts := []int{p.InodeMap, p.BlockMap, p.Table, p.Data}
		for i, start := range starts {
			if start != ends[i] || ends[i+1] <= start {
				t.Fatalf("P6.4: %v: area %d is the blocks %d to %d", p, i, start, ends[i+1]-1)
			}
		}
		if p.Data+p.DataCount != p.Blocks {
			t.Fatalf("P6.4: %v: the data blocks do not end with the last block", p)
		}
		inodes, blocks, table := p.BlockMap-p.InodeMap, p.Table-p.BlockMap, p.Data-p.Table
		if inodes != 1 || 8*table < p.Inodes || 8*(table-1) >= p.Inodes {
			t.Fatalf("P6.4: %v: %d blocks of the map, %d of the table of inodes", p, inodes, table)
		}
		// With one block less the map would have to tell of one more.
		if 4096*blocks < p.DataCount || blocks > 1 && 4096*(blocks-1) >= p.DataCount+1 {
			t.Fatalf("P6.4: %v: %d blocks of the map of data blocks", p, blocks)
		}
	})
}

// TestTheSameEachTime: nothing is kept from call to call.
func TestTheSameEachTime(t *testing.T) {
	p := planned(t, 4346, 9)
	b := encoded(t, p)
	for _, n := range someBlocks() {
		layout.Make(n, 4096)
		layout.Decode(layout.Encode(api.Plan{Blocks: n}))
		if q := planned(t, 4346, 9); q != p {
			t.Errorf("P6.4: Make(4346, 9) = %v at first, %v behind other calls", p, q)
		}
		good(t, "the same bytes", b, p)
	}
}
