package fs

import (
	"bollard/api"
	"bollard/dir"
)

// edit changes the bytes of a file.
func (f *FS) edit(path string, do func(i, size int) api.Errno) api.Errno {
	return f.change(func() api.Errno {
		i, size, e := f.file(path)
		if e != api.OK {
			return e
		}
		return do(i, size)
	})
}

// Write writes bytes.
func (f *FS) Write(path string, at int, b []byte) api.Errno {
	return f.edit(path, func(i, _ int) api.Errno { return f.s.Write(i, at, b) })
}

// Append writes at the end.
func (f *FS) Append(path string, b []byte) api.Errno {
	return f.edit(path, func(i, size int) api.Errno { return f.s.Write(i, size, b) })
}

// Truncate sets a size.
func (f *FS) Truncate(path string, size int) api.Errno {
	return f.edit(path, func(i, _ int) api.Errno { return f.s.Truncate(i, size) })
}

// Read reads bytes.
func (f *FS) Read(path string, at, n int) ([]byte, api.Errno) {
	if !f.stands() {
		return nil, api.ErrOff
	}
	i, _, e := f.file(path)
	if e != api.OK {
		return nil, e
	}
	return f.s.Read(i, at, n)
}

// Stat is what a path leads to.
func (f *FS) Stat(path string) (api.Stat, api.Errno) {
	if !f.stands() {
		return api.Stat{}, api.ErrOff
	}
	_, stat, e := f.find(path)
	return stat, e
}

// List is a directory's names.
func (f *FS) List(path string) ([]string, api.Errno) {
	if !f.stands() {
		return nil, api.ErrOff
	}
	i, _, e := f.find(path)
	if e != api.OK {
		return nil, e
	}
	l, e := dir.List(f.s, i)
	if e != api.OK {
		return nil, e
	}
	var names []string
	for _, entry := range l {
		names = append(names, entry.Name)
	}
	return names, api.OK
}
