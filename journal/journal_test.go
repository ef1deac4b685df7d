package journal_test

import (
	"bytes"
	"math"
	"slices"
	"testing"

	"bollard/api"
	"bollard/device"
	"bollard/journal"
)

const first = api.Journal // the first home

// full is a block that v tells, with no two bytes side by side the same; of 0 it is noughts, as a new device has them.
func full(v int) []byte {
	b := make([]byte, api.Block)
	for i := range b {
		if byte(v) != 0 {
			b[i] = byte(v + 7*i)
		}
	}
	return b
}

// told is the v of a block that full made; -1: it made none such.
func told(b []byte) int {
	if len(b) == api.Block && bytes.Equal(b, full(int(b[0]))) {
		return int(b[0])
	}
	return -1
}

// fresh is a device of n blocks of noughts.
func fresh(t *testing.T, n int) *device.Device {
	t.Helper()
	d, e := device.New(n)
	if e != api.OK {
		t.Fatalf("New(%d) = %d", n, e)
	}
	return d
}

// formatted is a device with an empty journal.
func formatted(t *testing.T, n int) *device.Device {
	t.Helper()
	d := fresh(t, n)
	if e := journal.Format(d); e != api.OK {
		t.Fatalf("P4.1: Format of %d blocks = %d", n, e)
	}
	return d
}

// opened is a journal that must open.
func opened(t *testing.T, d *device.Device) *journal.Journal {
	t.Helper()
	j, e := journal.Open(d)
	if e != api.OK || j == nil {
		t.Fatalf("P4.1: Open = %v, error %d", j, e)
	}
	return j
}

// list is changes, of block and v in turn.
func list(kv ...int) (l []journal.Change) {
	for i := 0; i < len(kv); i += 2 {
		l = append(l, journal.Change{Block: kv[i], Data: full(kv[i+1])})
	}
	return l
}

// run is n changes, of the homes from k on.
func run(k, n, v int) (l []journal.Change) {
	for i := range n {
		l = append(l, journal.Change{Block: k + i, Data: full(v + i)})
	}
	return l
}

// commit must be taken.
func commit(t *testing.T, j *journal.Journal, l []journal.Change) {
	t.Helper()
	if e := j.Commit(l); e != api.OK {
		t.Fatalf("P4.2: Commit of %d changes = %d", len(l), e)
	}
}

// sync must be taken.
func sync(t *testing.T, j *journal.Journal) {
	t.Helper()
	if e := j.Sync(); e != api.OK {
		t.Fatalf("P4.3: Sync() = %d", e)
	}
}

// homes are what a journal reads of the homes below n.
func homes(t *testing.T, j *journal.Journal, n int) (out []int) {
	t.Helper()
	for k := first; k < n; k++ {
		b, e := j.Read(k)
		if e != api.OK || len(b) != api.Block {
			t.Fatalf("P4.3: Read(%d) = %d bytes, error %d", k, len(b), e)
		}
		out = append(out, told(b))
	}
	return out
}

// bare are the homes as they lie on the device.
func bare(t *testing.T, d *device.Device) (out []int) {
	t.Helper()
	for k := first; k < d.Blocks(); k++ {
		b, e := d.Read(k)
		if e != api.OK {
			t.Fatalf("Read(%d) = %d", k, e)
		}
		out = append(out, told(b))
	}
	return out
}

// same holds a row of homes against v.
func same(t *testing.T, what string, got []int, v ...int) {
	t.Helper()
	if !slices.Equal(got, v) {
		t.Errorf("%s: homes %v, want %v", what, got, v)
	}
}

// noHomes are numbers that are no home of a device with n blocks.
func noHomes(n int) []int {
	return []int{first - 1, 1, 0, -1, -first, n, n + 1, first + 1<<16, 1 << 16, first + 1<<32, first - 1<<32, math.MinInt, math.MinInt + first, math.MaxInt}
}

func TestExample(t *testing.T) {
	for _, picks := range [][]int{nil, {0}, {1, 1, 1, 1, 1, 1}, {-1, 0, -1, 0}, {0, 1, 0, 1, 0, 1}} {
		d := formatted(t, 310)
		j := opened(t, d)
		commit(t, j, list(300, 10, 301, 11))
		k := opened(t, d.Crash(picks))
		same(t, "the chapter's example", homes(t, k, 310)[300-first:], 10, 11, 0, 0, 0, 0, 0, 0, 0, 0)
	}
}

func TestSmallDevices(t *testing.T) {
	devices := []*device.Device{nil, {}}
	for _, n := range []int{1, 2, 244, first} {
		d := fresh(t, n)
		d.Write(0, append([]byte("BOLLARDJ"), make([]byte, 504)...))
		off := d.Copy()
		off.Cut(0)
		devices = append(devices, d, fresh(t, n), off)
	}
	for _, d := range devices {
		ops := d.Ops()
		if e := journal.Format(d); e != api.ErrArg {
			t.Errorf("P4.1: Format of %d blocks = %d, want %d", d.Blocks(), e, api.ErrArg)
		}
		if j, e := journal.Open(d); j != nil || e != api.ErrArg {
			t.Errorf("P4.1: Open of %d blocks = %v, error %d, want %d", d.Blocks(), j, e, api.ErrArg)
		}
		if d.Ops() != ops {
			t.Errorf("P4.1: %d ops of a device with %d blocks", d.Ops()-ops, d.Blocks())
		}
	}
	for _, n := range []int{first + 1, first + 2, 1000, api.MaxBlocks} {
		j := opened(t, formatted(t, n))
		commit(t, j, list(n-1, 9))
		if b, e := j.Read(n - 1); e != api.OK || told(b) != 9 {
			t.Errorf("P4.1: of %d blocks: Read(%d) = %x, error %d", n, n-1, b, e)
		}
		if b, e := j.Read(n); b != nil || e != api.ErrArg {
			t.Errorf("P4.3: of %d blocks: Read(%d) = %x, error %d", n, n, b, e)
		}
	}
}

// TestFormatIsForGood: no crash behind it takes the journal, and no home was written, neither ahead of the crash nor behind it.
func TestFormatIsForGood(t *testing.T) {
	for _, picks := range [][]int{nil, {1, 1, 1, 1, 1, 1}, {0, 1, 0, 1}} {
		d := fresh(t, 250)
		for k := range 250 {
			d.Write(k, full(k))
		}
		d.Flush()
		before := bare(t, d)
		if e := journal.Format(d); e != api.OK {
			t.Fatalf("P4.1: Format of a device that others wrote = %d", e)
		}
		for _, x := range []*device.Device{d, d.Crash(picks)} {
			b, _ := x.Read(0)
			if string(b[:8]) != "BOLLARDJ" {
				t.Errorf("P4.1: block 0 begins with %q", b[:8])
			}
			same(t, "P4.1: the homes behind Format", bare(t, x), before...)
			same(t, "P4.1: a journal of a device that others wrote", homes(t, opened(t, x), 250), before...)
		}
	}
}

// TestFormatEmpties: what the journal held ahead is gone out of it: homes that are written behind are read as written.
func TestFormatEmpties(t *testing.T) {
	for _, n := range []int{1, 3, 4, 5} {
		for _, synced := range []bool{false, true} {
			d := formatted(t, 310)
			j := opened(t, d)
			for i := range n {
				commit(t, j, run(first, 60, 10*i+1))
			}
			if synced {
				sync(t, j)
			}
			before := bare(t, d)
			if e := journal.Format(d); e != api.OK {
				t.Fatalf("P4.1: Format again = %d", e)
			}
			same(t, "P4.1: the homes behind Format", bare(t, d), before...)
			d = d.Crash(nil)
			var want []int
			for k := first; k < 310; k++ {
				d.Write(k, full(k+50))
				want = append(want, int(byte(k+50)))
			}
			d.Flush()
			same(t, "P4.5: homes written since Format", homes(t, opened(t, d), 310), want...)
			k := opened(t, d.Crash(nil))
			commit(t, k, list(first, 7))
			want[0] = 7
			same(t, "P4.1: a Commit behind Format", homes(t, opened(t, d), 310)[1:], want[1:]...)
			same(t, "P4.1: a Commit behind Format", homes(t, k, 310), want...)
		}
	}
}

func TestOff(t *testing.T) {
	for _, n := range []int{first + 1, 300} {
		d := formatted(t, n)
		d.Cut(0)
		if e := journal.Format(d); e != api.ErrOff {
			t.Errorf("P4.1: Format of a device that is off = %d", e)
		}
		if j, e := journal.Open(d); j != nil || e != api.ErrOff {
			t.Errorf("P4.1: Open of a device that is off = %v, error %d", j, e)
		}
		plain := fresh(t, n)
		plain.Cut(0)
		if j, e := journal.Open(plain); j != nil || e != api.ErrBad {
			t.Errorf("P4.1: Open without a journal, off, = %v, error %d, want %d", j, e, api.ErrBad)
		}
		if e := journal.Format(plain); e != api.ErrOff {
			t.Errorf("P4.1: Format of a new device that is off = %d", e)
		}
	}
}

// TestFormatCut: wherever the power goes, ErrOff or what is promised of an OK.
func TestFormatCut(t *testing.T) {
	for cut := 0; ; cut++ {
		d := fresh(t, 250)
		d.Cut(cut)
		e := journal.Format(d)
		if e == api.OK {
			opened(t, d.Crash(nil))
			return
		}
		if e != api.ErrOff || cut > 1000 {
			t.Fatalf("P4.1: Format cut behind %d ops = %d", cut, e)
		}
		if j, e := journal.Open(d.Crash(nil)); (e != api.OK || j == nil) && (e != api.ErrBad || j != nil) {
			t.Errorf("P4.1: Open behind a Format cut behind %d ops = %v, error %d", cut, j, e)
		}
	}
}

func TestOpenBad(t *testing.T) {
	bad := []string{"", "BOLLARD", "BOLLARDK", "bollardj", "BOLLARDJ", "COLLARDJ", " BOLLARDJ", "BOLLARD\x00J", "B"}
	for _, text := range bad {
		d := formatted(t, 250)
		commit(t, opened(t, d), list(first, 1))
		b, _ := d.Read(0)
		copy(b, make([]byte, 8))
		copy(b, text)
		d.Write(0, b)
		j, e := journal.Open(d)
		if text == "BOLLARDJ" {
			if e != api.OK || j == nil {
				t.Errorf("P4.1: Open of %q = %v, error %d", text, j, e)
			}
			continue
		}
		if j != nil || e != api.ErrBad {
			t.Errorf("P4.1: Open of %q = %v, error %d, want %d", text, j, e, api.ErrBad)
		}
	}
	for i := range 8 {
		d := formatted(t, 250)
		b, _ := d.Read(0)
		b[i] ^= 1 << i
		d.Write(0, b)
		if j, e := journal.Open(d); j != nil || e != api.ErrBad {
			t.Errorf("P4.1: Open where byte %d is another = %v, error %d", i, j, e)
		}
	}
}

// TestOpenOfAnyBytes: behind the eight bytes anything may stand that no journal wrote: it opens, and every call ends.
func TestOpenOfAnyBytes(t *testing.T) {
	x := dice(4)
	for round := range 200 {
		d := formatted(t, 250)
		if round%2 == 0 {
			commit(t, opened(t, d), run(first, 5, 1))
		}
		for k := range first {
			b, _ := d.Read(k)
			for i := range b {
				if k > 0 || i >= 8 && x.below(1+round) == 0 {
					b[i] = byte(x.below(256))
				}
			}
			d.Write(k, b)
		}
		j, e := journal.Open(d)
		if e != api.OK || j == nil {
			t.Fatalf("P4.1: Open of any bytes behind BOLLARDJ = %v, error %d", j, e)
		}
		for k := first; k < 250; k++ {
			if b, e := j.Read(k); e != api.OK || len(b) != api.Block {
				t.Errorf("P4.3: Read(%d) = %x, error %d", k, b, e)
			}
		}
		for range 6 {
			commit(t, j, run(first, 5, round))
		}
		sync(t, j)
		same(t, "P4.3: a journal over any bytes", homes(t, opened(t, d.Crash(nil)), 250), homes(t, j, 250)...)
	}
}

// TestForeignTable: where block 0 is not wholly what a journal wrote, nothing was committed by it: the homes are told.
func TestForeignTable(t *testing.T) {
	for at := 8; at < api.Block; at++ {
		d := formatted(t, 250)
		want := others(t, d, 60)
		commit(t, opened(t, d), run(first, 5, 1))
		b, _ := d.Read(0)
		b[at] ^= byte(1 << (at % 8))
		d.Write(0, b)
		j := opened(t, d)
		same(t, "P4.1: a table of others", homes(t, j, 250), want...)
		commit(t, j, list(246, 9))
		want[1] = 9
		same(t, "P4.2: a Commit over a table of others", homes(t, opened(t, d.Crash(nil)), 250), want...)
	}
}

// TestJournalOfAGreaterDevice: its blocks tell of homes that are none here; those that are go on.
func TestJournalOfAGreaterDevice(t *testing.T) {
	great, d := formatted(t, 310), fresh(t, 248)
	j := opened(t, great)
	commit(t, j, list(246, 6, 309, 9))
	commit(t, j, list(300, 3, 248, 8))
	for k := range first {
		b, _ := great.Read(k)
		d.Write(k, b)
	}
	j = opened(t, d)
	same(t, "P4.1: a journal of a greater device", homes(t, j, 248), 0, 6, 0)
	for i := range 6 {
		commit(t, j, list(247, 10+i))
	}
	sync(t, j)
	same(t, "P4.3: a journal of a greater device", bare(t, d.Crash(nil)), 0, 6, 15)
}

// TestOpenAgain: another Open tells what the one ahead of it told, with and without Sync.
func TestOpenAgain(t *testing.T) {
	for _, synced := range []bool{false, true} {
		d := formatted(t, 260)
		var want []int
		for round := range 12 {
			j := opened(t, d)
			if round > 0 {
				same(t, "P4.1: Open again", homes(t, j, 260), want...)
			}
			commit(t, j, list(first+round, round+1, 259-round/2, round+50))
			if synced && round%3 == 1 {
				sync(t, j)
			}
			want = homes(t, j, 260)
			same(t, "P4.1: Open twice", homes(t, opened(t, d), 260), want...)
			same(t, "P4.1: Open behind a crash", homes(t, opened(t, d.Crash(nil)), 260), want...)
		}
	}
}
