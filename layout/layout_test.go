package layout_test

import (
	"math"
	"testing"

	"bollard/api"
	"bollard/layout"
)

// planned is a plan that Make must tell.
func planned(t *testing.T, n, inodes int) api.Plan {
	t.Helper()
	p, e := layout.Make(n, inodes)
	if e != api.OK {
		t.Fatalf("P6.1: Make(%d, %d) = %d", n, inodes, e)
	}
	return p
}

// counted is what Make must tell, found by counting blocks one by one.
func counted(n, inodes int) (api.Plan, api.Errno) {
	if n < 1 || n > 65536 || inodes < 1 || inodes > 4096 {
		return api.Plan{}, api.ErrArg
	}
	maps, table := 0, 0
	for told := 0; told < inodes; told += 4096 {
		maps++
	}
	for told := 0; told < inodes; told += 8 {
		table++
	}
	m := 1
	for 4096*m < n-(246+maps+m+table) {
		m++
	}
	p := api.Plan{Blocks: n, Inodes: inodes, InodeMap: 246}
	p.BlockMap = 246 + maps
	p.Table = 246 + maps + m
	p.Data = 246 + maps + m + table
	if n <= p.Data {
		return api.Plan{}, api.ErrFull
	}
	p.DataCount = n - p.Data
	return p, api.OK
}

// someInodes are counts of inodes at the edges of a block of the table, and of a map.
func someInodes() []int {
	return []int{1, 2, 7, 8, 9, 15, 16, 17, 64, 1000, 2047, 2048, 2049, 4088, 4089, 4095, 4096}
}

// someBlocks are counts of blocks at the edges of what has data blocks, and of a map.
func someBlocks() []int {
	return []int{250, 251, 300, 760, 761, 1000, 4345, 4346, 4347, 4856, 4857, 8442, 8443, 8444, 40000, 65535, 65536}
}

// wrong are counts that no device has, of blocks or of inodes, but for what is within the other's limit.
func wrong() []int {
	return []int{math.MinInt, math.MinInt + 1, -1 << 32, -65536, -4096, -246, -8, -1, 0, 65537, 65538, 1<<31 - 1, 1 << 31, 1 << 32, 1<<32 + 1, 1<<32 + 1000, 1 << 62, math.MaxInt - 4096, math.MaxInt - 1, math.MaxInt}
}

func TestMakeExamples(t *testing.T) {
	for _, want := range []api.Plan{
		{Blocks: 1000, Inodes: 64, InodeMap: 246, BlockMap: 247, Table: 248, Data: 256, DataCount: 744},
		{Blocks: 250, Inodes: 1, InodeMap: 246, BlockMap: 247, Table: 248, Data: 249, DataCount: 1},
		{Blocks: 250, Inodes: 8, InodeMap: 246, BlockMap: 247, Table: 248, Data: 249, DataCount: 1},
		{Blocks: 251, Inodes: 9, InodeMap: 246, BlockMap: 247, Table: 248, Data: 250, DataCount: 1},
		{Blocks: 761, Inodes: 4096, InodeMap: 246, BlockMap: 247, Table: 248, Data: 760, DataCount: 1},
		{Blocks: 761, Inodes: 4089, InodeMap: 246, BlockMap: 247, Table: 248, Data: 760, DataCount: 1},
		{Blocks: 761, Inodes: 4088, InodeMap: 246, BlockMap: 247, Table: 248, Data: 759, DataCount: 2},
		{Blocks: 4345, Inodes: 8, InodeMap: 246, BlockMap: 247, Table: 248, Data: 249, DataCount: 4096},
		{Blocks: 4346, Inodes: 8, InodeMap: 246, BlockMap: 247, Table: 249, Data: 250, DataCount: 4096},
		{Blocks: 4347, Inodes: 8, InodeMap: 246, BlockMap: 247, Table: 249, Data: 250, DataCount: 4097},
		{Blocks: 4346, Inodes: 9, InodeMap: 246, BlockMap: 247, Table: 248, Data: 250, DataCount: 4096},
		{Blocks: 8442, Inodes: 8, InodeMap: 246, BlockMap: 247, Table: 249, Data: 250, DataCount: 8192},
		{Blocks: 8443, Inodes: 8, InodeMap: 246, BlockMap: 247, Table: 250, Data: 251, DataCount: 8192},
		{Blocks: 65536, Inodes: 1, InodeMap: 246, BlockMap: 247, Table: 263, Data: 264, DataCount: 65272},
		{Blocks: 65536, Inodes: 4096, InodeMap: 246, BlockMap: 247, Table: 263, Data: 775, DataCount: 64761},
	} {
		if p, e := layout.Make(want.Blocks, want.Inodes); p != want || e != api.OK {
			t.Errorf("P6.1: Make(%d, %d) = %v %d, want %v", want.Blocks, want.Inodes, p, e, want)
		}
	}
}

func TestMakeRefuses(t *testing.T) {
	for _, x := range []struct {
		n, inodes int
		want      api.Errno
	}{
		{0, 1, api.ErrArg},
		{-1, 1, api.ErrArg},
		{65537, 1, api.ErrArg},
		{300, 0, api.ErrArg},
		{300, -1, api.ErrArg},
		{1000, 4097, api.ErrArg},
		{0, 0, api.ErrArg},
		{65537, 4097, api.ErrArg},
		{4096, 65536, api.ErrArg},
		{1, 1, api.ErrFull},
		{1, 4096, api.ErrFull},
		{245, 1, api.ErrFull},
		{246, 1, api.ErrFull},
		{247, 1, api.ErrFull},
		{248, 1, api.ErrFull},
		{249, 1, api.ErrFull},
		{249, 8, api.ErrFull},
		{250, 9, api.ErrFull},
		{760, 4096, api.ErrFull},
		{760, 4089, api.ErrFull},
		// A device too small for that is told only behind numbers that may not be.
		{1, 0, api.ErrArg},
		{1, 4097, api.ErrArg},
		{249, math.MaxInt, api.ErrArg},
		{249, math.MinInt, api.ErrArg},
		{math.MinInt, 4096, api.ErrArg},
	} {
		if p, e := layout.Make(x.n, x.inodes); p != (api.Plan{}) || e != x.want {
			t.Errorf("P6.1: Make(%d, %d) = %v %d, want %d", x.n, x.inodes, p, e, x.want)
		}
	}
}

// TestMakeFarOutside: whatever the other number is.
func TestMakeFarOutside(t *testing.T) {
	refused := func(n, inodes int) {
		t.Helper()
		if p, e := layout.Make(n, inodes); p != (api.Plan{}) || e != api.ErrArg {
			t.Errorf("P6.1: Make(%d, %d) = %v %d, want %d", n, inodes, p, e, api.ErrArg)
		}
	}
	for _, far := range wrong() {
		for _, inodes := range append(someInodes(), wrong()...) {
			refused(far, inodes)
		}
		for _, n := range append(someBlocks(), 1, 245, 249) {
			refused(n, far)
			refused(n, 4097)
		}
	}
}

func same(t *testing.T, n, inodes int) {
	p, e := layout.Make(n, inodes)
	if want, code := counted(n, inodes); p != want || e != code {
		t.Fatalf("P6.1: Make(%d, %d) = %v %d, want %v %d", n, inodes, p, e, want, code)
	}
}

func TestMakeOfAllBlocks(t *testing.T) {
	for _, inodes := range append(someInodes(), 0, 4097) {
		for n := -2; n <= 65540; n++ {
			same(t, n, inodes)
		}
	}
}

func TestMakeOfAllInodes(t *testing.T) {
	for _, n := range append(someBlocks(), 0, 1, 245, 246, 247, 248, 249, 65537) {
		for inodes := -2; inodes <= 4100; inodes++ {
			same(t, n, inodes)
		}
	}
}

// TestMakeLeast: the least device that has a data block, of each count of inodes, and one block less.
func TestMakeLeast(t *testing.T) {
	for inodes := 1; inodes <= 4096; inodes++ {
		least := 249 + (inodes+7)/8
		p := planned(t, least, inodes)
		if p.DataCount != 1 || p.Data != least-1 {
			t.Fatalf("P6.1: Make(%d, %d) = %v, want the last block alone for data", least, inodes, p)
		}
		if p, e := layout.Make(least-1, inodes); p != (api.Plan{}) || e != api.ErrFull {
			t.Fatalf("P6.1: Make(%d, %d) = %v %d, want %d", least-1, inodes, p, e, api.ErrFull)
		}
	}
}

// TestMakeMapGrows: a map of m blocks tells of 4096 m at most; the block behind these is the map's own.
func TestMakeMapGrows(t *testing.T) {
	for _, inodes := range someInodes() {
		table := (inodes + 7) / 8
		for m := 1; m <= 15; m++ {
			n := 247 + table + m + 4096*m
			if p := planned(t, n, inodes); p.Table-p.BlockMap != m || p.DataCount != 4096*m {
				t.Errorf("P6.1: Make(%d, %d) = %v, want a map of %d blocks, all of it used", n, inodes, p, m)
			}
			if p := planned(t, n-1, inodes); p.Table-p.BlockMap != m || p.DataCount != 4096*m-1 {
				t.Errorf("P6.1: Make(%d, %d) = %v, want a map of %d blocks, all but one bit used", n-1, inodes, p, m)
			}
			if p := planned(t, n+1, inodes); p.Table-p.BlockMap != m+1 || p.DataCount != 4096*m {
				t.Errorf("P6.1: Make(%d, %d) = %v, want a map of %d blocks and no data block more", n+1, inodes, p, m+1)
			}
		}
	}
}
