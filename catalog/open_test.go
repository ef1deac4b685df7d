package catalog_test

import (
	"encoding/binary"
	"fmt"
	"reflect"
	"slices"
	"strings"
	"testing"

	"bollard/api"
	"bollard/catalog"
)

// file is where the topics of /c are told.
const file = "/c/catalog"

// bytes are those of that file.
func (k *kit) bytes() []byte {
	k.t.Helper()
	b, e := k.f.Read(file, 0, most)
	if e != ok {
		k.t.Fatalf("Read(%q) = %d", file, e)
	}
	return b
}

// lay lets that file have other bytes.
func (k *kit) lay(b []byte) {
	k.t.Helper()
	k.do(k.f.Truncate(file, 0))
	for len(b) > 0 {
		n := min(len(b), 8192)
		k.do(k.f.Append(file, b[:n]))
		b = b[n:]
	}
}

// TestOpen: none, some and all topics that there may be.
func TestOpen(t *testing.T) {
	for _, n := range []int{0, 1, 2, 4, 5, 19, 20} {
		k := made(t, 900, 200)
		c, q := k.has(n)
		k.is("P17.2", c, q)
		k.again("P17.1", q)
		k.goesOn("P17.1", q)
	}
}

// TestOpenNames: names of one byte and of fifty, of any bytes that a name may have.
func TestOpenNames(t *testing.T) {
	k := made(t, 900, 200)
	c, q := k.makes("/c")
	for _, name := range []string{"a", strings.Repeat("a", 49), strings.Repeat("a", 50), strings.Repeat("\xff", 50), "\x01", "\xff", "...", "A", " ", "t1-0", "catalog", "producers", "\xc3\xa4\xe2\x82\xac", "a\nb", strings.Repeat("ab", 25)} {
		k.creates("P17.2", c, q, name, 1, set())
		k.is("P17.2", c, q)
	}
	k.again("P17.1", q)
	for _, x := range q.list() {
		k.deletes("P17.2", c, q, x.Name)
		k.is("P17.2", c, q)
		k.again("P17.2", q)
	}
}

// edges are settings of which each field alone is at its least or its greatest.
func edges() (l []api.Settings) {
	for _, lo := range []bool{true, false} {
		for _, hi := range []bool{true, false} {
			s := set()
			s.Compact = lo
			l = append(l, s)
			for i := range 4 {
				s := set()
				field := []*int{&s.Segment, &s.Bytes, &s.Age, &s.Delay}[i]
				*field = []int{512, -1, -1, 0}[i]
				if hi {
					*field = []int{8192, 1 << 40, end, end}[i]
				}
				l = append(l, s)
			}
		}
	}
	return append(l, leastSet(), mostSet())
}

// TestOpenSettings: each field at its least and its greatest.
func TestOpenSettings(t *testing.T) {
	k := made(t, 900, 200)
	c, q := k.makes("/c")
	for i, s := range edges() {
		k.creates("P17.2", c, q, fmt.Sprint("e", i), 1+i%8, s)
		k.is("P17.2", c, q)
		k.again("P17.1", q)
		if i%4 == 3 {
			for _, x := range q.list() {
				k.deletes("P17.2", c, q, x.Name)
			}
			k.sweepsAll("P17.3", c, q)
			c = k.opens("/c")
		}
	}
}

// tries opens a catalog that may be wrong. Whatever is answered, no call panics; with ErrBad nothing is changed.
func (k *kit) tries(what string) {
	k.t.Helper()
	var c *catalog.Catalog
	var e api.Errno
	k.still("P17.1", "Open of "+what, func() { c, e = catalog.Open(k.f, "/c") })
	if e == bad && c == nil {
		return
	}
	l := c.List()
	if e != ok || c == nil || len(l) > limit {
		k.t.Fatalf("P17.1: Open of %s = %v %d, of %d topics", what, c, e, len(l))
	}
	for _, x := range l {
		if y, found := c.Find(x.Name); x != y || !found || !isName(x.Name) || x.ID < 1 || x.Parts < 1 || x.Parts > 8 || !isSet(x.Set) {
			k.t.Fatalf("P17.1: Open of %s tells %v, Find %v %v", what, x, y, found)
		}
	}
	for range 4 {
		c.Sweep()
	}
	if len(l) > 0 {
		k.do(c.Delete(l[0].Name))
	}
	x, e := c.Create("new", 1, set())
	if e != ok && e != big {
		k.t.Fatalf("P17.2: of %s: Create = %d", what, e)
	}
	for _, y := range l {
		if e == ok && x.ID <= y.ID {
			k.t.Fatalf("P17.2: of %s: Create = %v behind %v", what, x, y)
		}
	}
	if got, want := k.opens("/c").List(), c.List(); !reflect.DeepEqual(got, want) {
		k.t.Fatalf("P17.1: of %s: %v is told behind Open, %v was there", what, got, want)
	}
}

// few is a kit with a catalog of n topics, of which another one was deleted.
func few(t *testing.T, n int) *kit {
	t.Helper()
	k := made(t, 500, 100)
	c, _ := k.has(n)
	if n > 2 {
		k.do(c.Delete("a1"))
	}
	return k
}

// TestOpenCut: what this package wrote, cut off at each byte.
func TestOpenCut(t *testing.T) {
	for _, n := range []int{0, 3, 20} {
		old := few(t, n)
		for size := range old.bytes() {
			if n != 3 && size%64 > 2 {
				continue
			}
			k := old.fork()
			k.do(k.f.Truncate(file, size))
			k.tries(fmt.Sprint(n, " topics, cut off to ", size))
		}
	}
}

// TestOpenBehind: what this package wrote, with something behind.
func TestOpenBehind(t *testing.T) {
	for _, n := range []int{0, 3, 20} {
		old := few(t, n)
		right := old.bytes()
		for _, more := range [][]byte{{0}, {1}, {'a'}, {255}, make([]byte, 128), right, make([]byte, 20000), []byte(strings.Repeat("text", 9000))} {
			k := old.fork()
			k.lay(append(slices.Clone(right), more...))
			k.tries(fmt.Sprint(n, " topics, and ", len(more), " bytes behind"))
		}
	}
}

// TestOpenChanged: what this package wrote, with each byte changed.
func TestOpenChanged(t *testing.T) {
	for _, n := range []int{0, 3, 20} {
		old := few(t, n)
		for at, b := range old.bytes() {
			if (at >= 3*128 || n != 3) && at%11 > 0 { // rows of one kind are all alike
				continue
			}
			for i, v := range []byte{b ^ 1, b ^ 128, 0, 255, b + 1, 'a', '/'} {
				if (at/5+i)%3 > 0 {
					continue
				}
				k := old.fork()
				k.do(k.f.Write(file, at, []byte{v}))
				k.tries(fmt.Sprintf("%d topics, byte %d is %d", n, at, v))
			}
		}
	}
}

// TestOpenOthers: no file of that name, a directory, and files that others made.
func TestOpenOthers(t *testing.T) {
	old := few(t, 3)
	size := len(old.bytes())
	for _, b := range [][]byte{nil, {0}, []byte("text"), []byte(strings.Repeat("text", size/4)), slices.Repeat([]byte{255}, size), slices.Repeat([]byte{1}, size), make([]byte, size-1), make([]byte, size+1), make([]byte, api.MaxFile)} {
		k := old.fork()
		k.lay(b)
		k.refused("/c", exist, bad)
	}
	k := old.fork()
	k.do(k.f.Remove(file))
	k.refused("/c", exist, bad)
	k.do(k.f.Mkdir(file))
	k.refused("/c", exist, bad)
	k.do(k.f.Create(file + "/x"))
	k.refused("/c", exist, bad)
	deep := k.deep(8)
	k.do(k.f.Mkdir(deep))
	k.refused(deep, exist, bad)
}

// row is the bytes of one: a name, and seven numbers.
func row(name string, l ...uint64) []byte {
	b := make([]byte, 128)
	copy(b, name)
	for i, n := range l {
		binary.BigEndian.PutUint64(b[50+8*i:], n)
	}
	return b
}

// rows are the bytes of a file that begins with these.
func rows(l ...[]byte) (b []byte) {
	for _, one := range l {
		b = append(b, one...)
	}
	return append(b, make([]byte, 20*128-len(b))...)
}

// right is a row that may be.
func right(name string, id uint64) []byte {
	return row(name, id, 2, 512, 1<<64-1, 7, 1, 9)
}

// TestOpenRows: rows that may not be, behind and ahead of one that may; and two that may not be both.
func TestOpenRows(t *testing.T) {
	k := made(t, 500, 100)
	k.makes("/c")
	const minus = 1<<64 - 1
	for _, b := range [][]byte{
		right("", 9), right("a/b", 9), right(".", 9), right("..", 9), right("/", 9), append(right("a", 9)[:127], 1),
		append([]byte("a\x00b"), right("a", 9)[3:]...), append([]byte("\x00b"), right("", 9)[2:]...),
		right("a", 0), right("a", minus), right("a", 1<<63), right("a", 1<<50+1), row("", minus), row("", 1<<50+1),
		row("a", 9, 0, 512, 0, 0, 0, 0), row("a", 9, 9, 512, 0, 0, 0, 0), row("a", 9, minus, 512, 0, 0, 0, 0), row("a", 9, 1<<32+1, 512, 0, 0, 0, 0),
		row("a", 9, 1, 511, 0, 0, 0, 0), row("a", 9, 1, 8193, 0, 0, 0, 0), row("a", 9, 1, 0, 0, 0, 0, 0),
		row("a", 9, 1, 512, minus-1, 0, 0, 0), row("a", 9, 1, 512, 1<<40+1, 0, 0, 0),
		row("a", 9, 1, 512, 0, minus-1, 0, 0), row("a", 9, 1, 512, 0, 1<<50+1, 0, 0),
		row("a", 9, 1, 512, 0, 0, 2, 0), row("a", 9, 1, 512, 0, 0, minus, 0), row("a", 9, 1, 512, 0, 0, 1<<32, 0),
		row("a", 9, 1, 512, 0, 0, 0, minus), row("a", 9, 1, 512, 0, 0, 0, 1<<50+1),
		row("", 9, 1), row("", 0, 1), row("", 9, 0, 512), row("", 9, 0, 0, 0, 0, 0, 1), row("", 9, 0, 0, 0, 0, 1),
	} {
		for _, l := range [][][]byte{{b}, {right("b", 7), b}, {b, row(""), right("b", 7)}} {
			k.lay(rows(l...))
			k.refused("/c", exist, bad)
		}
	}
	for _, b := range [][]byte{right("b", 9), right("c", 7), row("", 7)} { // each may be alone
		for _, l := range [][][]byte{{right("b", 7), b}, {b, row(""), right("b", 7)}} {
			k.lay(rows(l...))
			k.refused("/c", exist, bad)
		}
		k.lay(rows(b))
		k.opens("/c")
	}
	k.lay(rows(right("b", 7), row("", 8), right("a", 3)))
	l := k.opens("/c").List()
	if want := fmt.Sprintf("[{a 3 2 %v} {b 7 2 %v}]", set(), set()); fmt.Sprint(l) != want {
		t.Errorf("P17.1: List() = %v, want %s", l, want)
	}
	if x, e := k.opens("/c").Create("new", 1, set()); x.ID != 9 || e != ok {
		t.Errorf("P17.2: Create = %v %d, want the ID 9", x, e)
	}
}

// TestOpenLastID: where no ID is left, nothing is created.
func TestOpenLastID(t *testing.T) {
	k := made(t, 500, 100)
	k.makes("/c")
	for _, b := range [][]byte{row("", end), right("b", end)} {
		k.lay(rows(b))
		k.still("P17.2", "Create without an ID", func() {
			if x, e := k.opens("/c").Create("new", 1, set()); x != (catalog.Topic{}) || e != big {
				t.Errorf("P17.2: Create = %v %d, want ErrBig", x, e)
			}
		})
	}
	k.lay(rows(row("", end-1)))
	if x, e := k.opens("/c").Create("new", 1, set()); x.ID != end || e != ok {
		t.Errorf("P17.2: Create = %v %d, want the greatest ID", x, e)
	}
	if y, found := k.opens("/c").Find("new"); y.ID != end || !found {
		t.Errorf("P17.2: Find = %v %v", y, found)
	}
}

// TestOpenDead: on a file system whose device is off Open still tells what there is, and writes nothing.
func TestOpenDead(t *testing.T) {
	k := made(t, 500, 100)
	c, q := k.has(3)
	k.deletes("P17.2", c, q, "a1")
	k.d.Cut(0)
	k.fails(off, c.Delete("a0"))
	k.still("P17.1", "Open", func() { k.is("P17.1", k.opens("/c"), q) })
	k.refuses("P17.2", c, q, "new", 1, set(), off)
	k.refuses("P17.2", c, q, "a0", 1, set(), exist)
	k.refuses("P17.2", c, q, "", 1, set(), arg)
	k.fails(none, c.Delete("a1"))
	if gone, e := c.Sweep(); gone || e != off {
		t.Errorf("P17.3: Sweep() = %v %d, want ErrOff", gone, e)
	}
	k.is("P17.2", c, q)
	k.refused("/q", off, none)
	k.refused("/", off, bad)
	k.refused("", off, arg)
}
