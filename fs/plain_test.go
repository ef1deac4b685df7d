package fs_test

import (
	"fmt"
	"maps"
	"slices"
	"strings"

	"bollard/api"
	"bollard/dir"
)

// entry is a slot of a directory; one without a name is free.
type entry struct {
	name string
	to   *thing
}

// thing is a file or a directory.
type thing struct {
	kind  int
	data  []byte
	slots []entry
}

// plain is a file system as a tree in memory: what the chapter's words say, without blocks that are written.
type plain struct {
	root           *thing
	blocks, inodes int // that are free

	began   *plain // what it was at Begin; nil: there was none
	broken  bool   // it became too great
	touched map[*thing]struct{}
	written int // blocks since Begin, at most
}

// newPlain is an empty one with so much room.
func newPlain(blocks, inodes int) *plain {
	return &plain{root: &thing{kind: 2}, blocks: blocks, inodes: inodes}
}

// clone is a tree that shares nothing with p.
func (p *plain) clone() *plain {
	return &plain{root: p.root.clone(), blocks: p.blocks, inodes: p.inodes}
}

func (t *thing) clone() *thing {
	c := &thing{kind: t.kind, data: slices.Clone(t.data), slots: slices.Clone(t.slots)}
	for i, s := range c.slots {
		if s.to != nil {
			c.slots[i].to = s.to.clone()
		}
	}
	return c
}

func (t *thing) size() int {
	if t.kind == 2 {
		return 64 * len(t.slots)
	}
	return len(t.data)
}

// at is the slot of a name; -1: there is none.
func (t *thing) at(name string) int {
	return slices.IndexFunc(t.slots, func(s entry) bool { return s.name == name })
}

// names are a directory's, rising.
func (t *thing) names() (l []string) {
	for _, s := range t.slots {
		if s.to != nil {
			l = append(l, s.name)
		}
	}
	slices.Sort(l)
	return l
}

// has is how many blocks a size has.
func has(size int) int {
	n := (size + 511) / 512
	if n > 10 {
		n++
	}
	return n
}

// names parts a path; false: it is none.
func names(path string) ([]string, bool) {
	if path == "/" {
		return nil, true
	}
	l := strings.Split(path, "/")
	if l[0] != "" || len(l) < 2 || len(l) > 9 || !all(l[1:], dir.Name) {
		return nil, false
	}
	return l[1:], true
}

func all(l []string, is func(string) bool) bool {
	return !slices.ContainsFunc(l, func(s string) bool { return !is(s) })
}

// walk is what names lead to.
func (p *plain) walk(l []string) (*thing, api.Errno) {
	t := p.root
	for _, name := range l {
		if t.kind != 2 {
			return nil, kind
		}
		i := t.at(name)
		if i < 0 {
			return nil, none
		}
		t = t.slots[i].to
	}
	return t, ok
}

// find is what a path leads to.
func (p *plain) find(path string) (*thing, api.Errno) {
	l, is := names(path)
	if !is {
		return nil, arg
	}
	return p.walk(l)
}

// parent is the directory in which the last of names stands, or would.
func (p *plain) parent(l []string) (*thing, string, api.Errno) {
	d, e := p.walk(l[:len(l)-1])
	if e == ok && d.kind != 2 {
		e = kind
	}
	return d, l[len(l)-1], e
}

// lack is why a thing can't grow to a size.
func (p *plain) lack(t *thing, size int) api.Errno {
	switch {
	case size > api.MaxFile:
		return big
	case has(size)-has(t.size()) > p.blocks:
		return full
	}
	return ok
}

// touch counts what a call writes, at most.
func (p *plain) touch(t *thing, blocks int) {
	if p.touched != nil {
		p.touched[t] = struct{}{}
	}
	p.written += blocks
}

// add lets a name lead to a thing.
func (p *plain) add(d *thing, name string, to *thing) api.Errno {
	if i := d.at(""); i >= 0 {
		d.slots[i] = entry{name, to}
		p.touch(d, 1)
		return ok
	}
	if e := p.lack(d, d.size()+64); e != ok {
		return e
	}
	p.blocks -= has(d.size()+64) - has(d.size())
	d.slots = append(d.slots, entry{name, to})
	p.touch(d, 2)
	return ok
}

// drop frees what a thing has.
func (p *plain) drop(t *thing) {
	p.blocks += has(t.size())
	p.inodes++
}

func (p *plain) create(path string, kind int) api.Errno {
	l, is := names(path)
	switch {
	case !is:
		return arg
	case len(l) == 0:
		return exist
	}
	d, name, e := p.parent(l)
	switch {
	case e != ok:
		return e
	case d.at(name) >= 0:
		return exist
	case p.inodes == 0:
		return full
	}
	t := &thing{kind: kind}
	if e := p.add(d, name, t); e != ok {
		return e
	}
	p.touch(t, 0)
	p.inodes--
	return ok
}

func (p *plain) remove(path string) api.Errno {
	l, is := names(path)
	if !is || len(l) == 0 {
		return arg
	}
	t, e := p.walk(l)
	switch {
	case e != ok:
		return e
	case len(t.names()) > 0:
		return busy
	}
	d, name, _ := p.parent(l)
	d.slots[d.at(name)] = entry{}
	p.touch(d, 1)
	p.drop(t)
	return ok
}

func (p *plain) rename(from, to string) api.Errno {
	a, isA := names(from)
	b, isB := names(to)
	if !isA || !isB || len(a) == 0 || len(b) == 0 || len(b) > len(a) && slices.Equal(a, b[:len(a)]) {
		return arg
	}
	t, e := p.walk(a)
	if e != ok {
		return e
	}
	d, name, e := p.parent(b)
	if e != ok || from == to {
		return e
	}
	if i := d.at(name); i >= 0 {
		gone := d.slots[i].to
		if gone.kind == 2 || t.kind == 2 {
			return kind
		}
		d.slots[i].to = t
		p.touch(d, 1)
		p.drop(gone)
	} else if e := p.add(d, name, t); e != ok {
		return e
	}
	d, name, _ = p.parent(a)
	d.slots[d.at(name)] = entry{}
	p.touch(d, 1)
	return ok
}

// edit changes a file's bytes.
func (p *plain) edit(path string, do func(t *thing) (from int, data []byte, e api.Errno)) api.Errno {
	t, e := p.find(path)
	switch {
	case e != ok:
		return e
	case t.kind != 1:
		return kind
	}
	from, data, e := do(t)
	if e == ok {
		e = p.lack(t, len(data))
	}
	if e != ok {
		return e
	}
	p.blocks -= has(len(data)) - has(t.size())
	t.data = data
	p.touch(t, max(0, len(data)-from)/512+3)
	return ok
}

// over is bytes with others laid over them, from at on.
func over(data []byte, at int, b []byte) []byte {
	return append(slices.Clone(data[:at]), append(slices.Clone(b), data[min(len(data), at+len(b)):]...)...)
}

func (p *plain) write(path string, at int, b []byte) api.Errno {
	return p.edit(path, func(t *thing) (int, []byte, api.Errno) {
		if at < 0 || at > len(t.data) {
			return 0, nil, arg
		}
		return at, over(t.data, at, b), ok
	})
}

func (p *plain) append(path string, b []byte) api.Errno {
	return p.edit(path, func(t *thing) (int, []byte, api.Errno) {
		return len(t.data), slices.Concat(t.data, b), ok
	})
}

func (p *plain) truncate(path string, size int) api.Errno {
	return p.edit(path, func(t *thing) (int, []byte, api.Errno) {
		switch {
		case size < 0:
			return 0, nil, arg
		case size > api.MaxFile:
			return 0, nil, big
		}
		return len(t.data), append(slices.Clone(t.data), make([]byte, max(0, size-len(t.data)))...)[:size], ok
	})
}

// begin, and what ends it.
func (p *plain) begin() api.Errno {
	if p.began != nil {
		return state
	}
	p.began, p.touched, p.written = p.clone(), map[*thing]struct{}{}, 0
	return ok
}

func (p *plain) end(keep bool) api.Errno {
	if p.began == nil {
		return state
	}
	e := ok
	switch {
	case keep && p.broken:
		e = big
	case !keep && !p.broken:
		p.back()
	}
	p.began, p.touched, p.broken = nil, nil, false
	return e
}

// back is as at Begin.
func (p *plain) back() {
	p.root, p.blocks, p.inodes = p.began.root, p.began.blocks, p.began.inodes
}

// burst is a transaction that is too great.
func (p *plain) burst() {
	if p.began != nil {
		p.back()
		p.broken = true
	}
}

// mayBurst is whether the transaction may be too great (P8.4).
func (p *plain) mayBurst() bool {
	return p.began != nil && (p.written > 24 || len(p.touched) > 5)
}

// on does a call.
func (c call) onPlain(p *plain) api.Errno {
	switch {
	case c.name == "Begin":
		return p.begin()
	case c.name == "Commit" || c.name == "Abort":
		return p.end(c.name == "Commit")
	case p.broken:
		return big
	case c.name == "Mkdir":
		return p.create(c.path, 2)
	case c.name == "Create":
		return p.create(c.path, 1)
	case c.name == "Remove":
		return p.remove(c.path)
	case c.name == "Rename":
		return p.rename(c.path, c.to)
	case c.name == "Write":
		return p.write(c.path, c.n, c.b)
	case c.name == "Append":
		return p.append(c.path, c.b)
	case c.name == "Truncate":
		return p.truncate(c.path, c.n)
	}
	panic(c.name)
}

// show is as that of a file system.
func (p *plain) show() string {
	return fmt.Sprintf("free %d %d\n", p.blocks, p.inodes) + p.root.show("/")
}

func (t *thing) show(path string) string {
	text := fmt.Sprintf("%s %d %d 0", path, t.kind, t.size())
	if t.kind == 1 {
		return text + fmt.Sprintf(" %s 0\n", digest(t.data))
	}
	text += fmt.Sprintf(" %q 0\n", t.names())
	if strings.Count(path, "/") == api.MaxDepth {
		return text
	}
	for _, name := range t.names() {
		text += t.slots[t.at(name)].to.show(strings.TrimSuffix(path, "/") + "/" + name)
	}
	return text
}

// paths are all that lead somewhere.
func (p *plain) paths() []string {
	l := map[string]struct{}{"/": {}}
	p.root.paths("", l)
	return slices.Sorted(maps.Keys(l))
}

func (t *thing) paths(path string, l map[string]struct{}) {
	for _, s := range t.slots {
		if s.to != nil && strings.Count(path, "/") < api.MaxDepth {
			l[path+"/"+s.name] = struct{}{}
			s.to.paths(path+"/"+s.name, l)
		}
	}
}
