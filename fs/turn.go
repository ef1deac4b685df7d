package fs

import "bollard/api"

// phase is what becomes of a call that changes something.
type phase int

const (
	single   phase = iota // it is a transaction of its own
	begun                 // it is a part of one
	tooGreat              // it is refused: the transaction is aborted, but its end was not asked for yet
	dead                  // it is refused for ever
)

// Begin begins a transaction.
func (f *FS) Begin() api.Errno {
	switch {
	case !f.stands():
		return api.ErrOff
	case f.phase == begun || f.phase == tooGreat:
		return api.ErrState
	case f.phase == dead:
		return api.ErrOff
	}
	f.phase = begun
	return f.c.Begin()
}

// Commit ends it.
func (f *FS) Commit() api.Errno {
	switch {
	case !f.stands():
		return api.ErrOff
	case f.phase == tooGreat:
		f.phase = single
		return api.ErrBig
	case f.phase != begun:
		return api.ErrState
	}
	f.phase = single
	return f.seal()
}

// Abort forgets it.
func (f *FS) Abort() api.Errno {
	switch {
	case !f.stands():
		return api.ErrOff
	case f.phase == begun:
		f.undo()
	case f.phase != tooGreat:
		return api.ErrState
	}
	f.phase = single
	return api.OK
}

// Off is whether all that changes something answers ErrOff. It is for the packages that stand on this one: what looks alone does not tell it.
func (f *FS) Off() bool {
	return !f.stands() || f.phase == dead
}

// seal makes what the cache's transaction did be for good. Where that fails, a later Mount alone can tell whether it was done.
func (f *FS) seal() api.Errno {
	e := f.c.Commit()
	if e != api.OK {
		f.phase = dead
		f.forget()
	}
	return e
}

// undo lets nothing of the cache's transaction have happened.
func (f *FS) undo() {
	f.c.Abort()
	f.forget()
}

// forget lets names be looked up anew: those that are known may be of what was undone.
func (f *FS) forget() {
	f.leads = map[link]int{}
}

// change does what a call changes, wholly or not at all. What the file system is in comes ahead of all that may be wrong with the call itself.
func (f *FS) change(do step) api.Errno {
	switch {
	case f.Off():
		return api.ErrOff
	case f.phase == tooGreat:
		return api.ErrBig
	case f.phase == begun:
		return f.within(do)
	}
	f.c.Begin()
	if e := do(); e != api.OK {
		f.undo()
		return e
	}
	return f.seal()
}

// within does a call within the transaction that was begun. With an error the call alone is undone, unless the transaction had no room for it: then all is.
func (f *FS) within(do step) api.Errno {
	mark := f.c.Mark()
	e := do()
	switch {
	case e == api.OK:
		return api.OK
	case f.c.Overfull():
		f.undo()
		f.phase = tooGreat
	default:
		f.c.Return(mark)
		f.forget()
	}
	return e
}

// Together does calls as if they were one: a transaction of its own, or a part of the one that was begun; with an error none of them has happened. It is for the packages that stand on this one: what they do by several calls is undone by it within a transaction, too, without undoing the transaction.
func (f *FS) Together(do func() api.Errno) api.Errno {
	switch {
	case !f.stands():
		return api.ErrOff
	case f.phase == single:
		return f.alone(do)
	case f.phase == begun:
		return f.within(do)
	}
	// Nothing can be changed: each of the calls says so itself, and those that look tell as ever.
	return do()
}

// alone does calls as one transaction.
func (f *FS) alone(do step) api.Errno {
	f.Begin()
	if e := do(); e != api.OK {
		f.Abort()
		return e
	}
	return f.Commit()
}
