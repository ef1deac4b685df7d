package fs

import (
	"strings"

	"bollard/api"
	"bollard/dir"
	"bollard/inode"
)

// root is the inode of the directory `/`.
const root = 0

// link is where a name stands: in which directory.
type link struct {
	dir  int
	name string
}

// part is the names of a path, none of `/`; false: it is no path.
func part(path string) (names []string, ok bool) {
	if path == "/" {
		return nil, true
	}
	left := path
parting:
	for left != "" {
		rest, leads := strings.CutPrefix(left, "/")
		name, _, _ := strings.Cut(rest, "/")
		switch {
		case !leads || !dir.Name(name):
			break parting
		case len(names) == api.MaxDepth:
			break parting
		}
		names = append(names, name)
		left = rest[len(name):]
	}
	return names, left == "" && path != ""
}

// follow is the inode that a name leads to.
func (f *FS) follow(l link) (int, api.Errno) {
	if i, known := f.leads[l]; known {
		return i, api.OK
	}
	i, e := dir.Find(f.s, l.dir, l.name)
	if e == api.OK {
		f.learn(l, i)
	}
	return i, e
}

// learn keeps what a name leads to. The name is copied: it may be a piece of a long path.
func (f *FS) learn(l link, i int) {
	l.name = strings.Clone(l.name)
	f.leads[l] = i
}

// walk is the inode that names lead to, from the root on.
func (f *FS) walk(names []string) (int, api.Errno) {
	i := root
	for _, name := range names {
		var e api.Errno
		if i, e = f.follow(link{i, name}); e != api.OK {
			return 0, e
		}
	}
	return i, api.OK
}

// reach is where the last of names stands, or would stand. Whether that is a directory is told by who follows it.
func (f *FS) reach(names []string) (link, api.Errno) {
	last := len(names) - 1
	d, e := f.walk(names[:last])
	return link{d, names[last]}, e
}

// find is the inode that a path leads to, and what it is.
func (f *FS) find(path string) (int, api.Stat, api.Errno) {
	names, ok := part(path)
	if !ok {
		return 0, api.Stat{}, api.ErrArg
	}
	i, e := f.walk(names)
	if e != api.OK {
		return 0, api.Stat{}, e
	}
	stat, e := f.s.Stat(i)
	return i, stat, e
}

// file is the inode of a file, and its size.
func (f *FS) file(path string) (i, size int, e api.Errno) {
	i, stat, e := f.find(path)
	switch {
	case e != api.OK:
		return 0, 0, e
	case stat.Kind != inode.File:
		return 0, 0, api.ErrKind
	}
	return i, stat.Size, api.OK
}
