package catalog

import "bollard/api"

// has is whether a topic has that ID.
func (c *Catalog) has(id int) bool {
	for _, x := range c.topics {
		if x.topic.ID == id {
			return true
		}
	}
	return false
}

// Sweep removes what no topic has.
func (c *Catalog) Sweep() (bool, api.Errno) {
	if !c.stands() {
		return false, api.ErrOff
	}
	names, e := c.f.List(c.dir)
	if e != api.OK {
		return false, e
	}
	for _, name := range names {
		id, ok := idOf(name)
		if !ok || c.has(id) {
			continue
		}
		e := c.shorten(join(c.dir, name))
		if e == api.ErrKind { // a file is no topic's, whatever its name is
			continue
		}
		return e == api.OK, e
	}
	return false, api.OK
}

// shorten removes the first thing in a directory, or, if there is none, the directory.
func (c *Catalog) shorten(path string) api.Errno {
	names, e := c.f.List(path)
	if e != api.OK {
		return e
	}
	if len(names) > 0 {
		path = join(path, names[0])
	}
	return c.f.Remove(path)
}
