package fs

import (
	"strings"

	"bollard/api"
	"bollard/dir"
	"bollard/inode"
)

// add lets a new name lead to an inode.
func (f *FS) add(l link, i int) api.Errno {
	e := dir.Add(f.s, l.dir, l.name, i)
	if e == api.OK {
		f.learn(l, i)
	}
	return e
}

// move lets a name lead to another inode.
func (f *FS) move(l link, i int) api.Errno {
	e := dir.Move(f.s, l.dir, l.name, i)
	if e == api.OK {
		f.learn(l, i)
	}
	return e
}

// remove lets a name be none.
func (f *FS) remove(l link) api.Errno {
	delete(f.leads, l)
	return dir.Remove(f.s, l.dir, l.name)
}

// Mkdir makes a directory.
func (f *FS) Mkdir(path string) api.Errno {
	return f.create(path, inode.Directory)
}

// Create makes a file.
func (f *FS) Create(path string) api.Errno {
	return f.create(path, inode.File)
}

// create makes either.
func (f *FS) create(path string, kind int) api.Errno {
	return f.change(func() api.Errno {
		l, e := f.vacant(path)
		if e != api.OK {
			return e
		}
		i, e := f.s.Make(kind)
		if e != api.OK {
			return e
		}
		return f.add(l, i)
	})
}

// vacant is where the last name of a path would stand, if it is not there.
func (f *FS) vacant(path string) (link, api.Errno) {
	names, ok := part(path)
	switch {
	case !ok:
		return link{}, api.ErrArg
	case len(names) == 0:
		return link{}, api.ErrExist
	}
	l, e := f.reach(names)
	if e != api.OK {
		return link{}, e
	}
	switch _, e := f.follow(l); e {
	case api.ErrNone:
		return l, api.OK
	case api.OK:
		return link{}, api.ErrExist
	default:
		return link{}, e
	}
}

// present is where the last of names stands, and the inode that it leads to.
func (f *FS) present(names []string) (link, int, api.Errno) {
	l, e := f.reach(names)
	if e != api.OK {
		return link{}, 0, e
	}
	i, e := f.follow(l)
	return l, i, e
}

// Remove removes either.
func (f *FS) Remove(path string) api.Errno {
	return f.change(func() api.Errno {
		names, ok := part(path)
		if !ok || len(names) == 0 {
			return api.ErrArg
		}
		l, i, e := f.present(names)
		switch {
		case e != api.OK:
			return e
		case f.busy(i):
			return api.ErrBusy
		}
		return inTurn(
			func() api.Errno { return f.remove(l) },
			func() api.Errno { return f.s.Drop(i) },
		)
	})
}

// busy is whether an inode is a directory with names in it.
func (f *FS) busy(i int) bool {
	l, _ := dir.List(f.s, i)
	return len(l) > 0
}

// Rename names it otherwise.
func (f *FS) Rename(from, to string) api.Errno {
	return f.change(func() api.Errno {
		old, ok := part(from)
		aim, fine := part(to)
		switch {
		case !ok || !fine || len(old) == 0 || len(aim) == 0:
			return api.ErrArg
		case strings.HasPrefix(to, from+"/"):
			return api.ErrArg
		}
		source, i, e := f.present(old)
		if e != api.OK {
			return e
		}
		target, e := f.reach(aim)
		if e != api.OK || source == target {
			return e
		}
		return f.relink(source, target, i)
	})
}

// relink lets target lead to the inode that source leads to, and source be gone.
func (f *FS) relink(source, target link, i int) api.Errno {
	last, e := f.follow(target)
	switch {
	case e == api.ErrNone:
		return inTurn(
			func() api.Errno { return f.add(target, i) },
			func() api.Errno { return f.remove(source) },
		)
	case e != api.OK:
		return e
	case !f.isFile(last) || !f.isFile(i):
		return api.ErrKind
	}
	return inTurn(
		func() api.Errno { return f.move(target, i) },
		func() api.Errno { return f.remove(source) },
		func() api.Errno { return f.s.Drop(last) },
	)
}

// isFile is whether an inode is one.
func (f *FS) isFile(i int) bool {
	stat, _ := f.s.Stat(i)
	return stat.Kind == inode.File
}
