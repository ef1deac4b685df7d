package inode

import (
	"bollard/api"
	"bollard/bits"
)

// A shelf is a block of the table with places for rows. There is one for each sixteen inodes: so at any time one of them has five places that are free, whichever rows stand where.
const (
	places      = 21
	shelfInodes = 16
	rowSize     = fields * numberSize
)

// shelves is how many there are.
func (s *Store) shelves() int {
	return (s.inodes() + shelfInodes - 1) / shelfInodes
}

// shelf is the block of one. Shelves are the last blocks of the table, and rows stand at a shelf's end: a table of one block has the sizes and the register ahead of them.
func (s *Store) shelf(k int) int {
	return s.p.Data - s.shelves() + k
}

// rowAt is where on a shelf a row stands.
func rowAt(place int) int {
	return api.Block - rowSize*(place+1)
}

// row is an inode's: of several ones that on the shelf that was written last. One that stands nowhere is of no kind.
func (s *Store) row(i int) (row, api.Errno) {
	r, e := s.register()
	if e != api.OK {
		return row{}, e
	}
	turn, block, at := 0, 0, 0
	for k := range r.shelves() {
		if r.turn(k) <= turn {
			continue
		}
		if place := r.find(k, i+1); place >= 0 {
			turn, block, at = r.turn(k), s.shelf(k), rowAt(place)
		}
	}
	if turn == 0 {
		return row{}, api.OK
	}
	b, e := s.c.Read(block)
	if e != api.OK {
		return row{}, e
	}
	var l [fields]int
	pick(b[at:], l[:])
	return rowOf(l), api.OK
}

// emptyShelves lets no row stand anywhere.
func (s *Store) emptyShelves() api.Errno {
	r, e := s.register()
	if e != api.OK {
		return e
	}
	r.stampAnew()
	return s.keep(r, 0)
}

// sweep frees, in the register at hand, the places whose rows mean nothing: on void shelves, of inodes that are gone, of the inode i, and of those of which a later row is there.
func (s *Store) sweep(r register, i int) api.Errno {
	taken, e := s.a.Inodes()
	if e != api.OK {
		return e
	}
	latest := r.latest(s.inodes())
	for k := range r.shelves() {
		turn := r.turn(k)
		for place := range places {
			owner := r.owner(k, place)
			holds := turn > 0 && owner < len(latest) && latest[owner] == turn && owner != i+1 && bits.Test(taken, owner-1)
			if owner != 0 && !holds {
				r.setOwner(k, place, 0)
			}
		}
	}
	return api.OK
}

// roomiest is the shelf to lay a row on: one that the transaction wrote already, or else that with the most free places; -1: there is none.
func (s *Store) roomiest(r register) int {
	best, most := -1, 0
	for k := range r.shelves() {
		free := r.free(k)
		if free > 0 && s.c.Wrote(s.shelf(k)) {
			return k
		}
		if free > most {
			best, most = k, free
		}
	}
	return best
}

// shelve lays the row of an inode on a shelf. Others keep the rows of it that they have: these count no more.
func (s *Store) shelve(i int, w row) api.Errno {
	r, e := s.register()
	if e != api.OK {
		return e
	}
	turn := r.last() + 1
	if e := s.sweep(r, i); e != api.OK {
		return e
	}
	k := s.roomiest(r)
	if k < 0 {
		return api.ErrFull
	}
	place := r.find(k, 0)
	r.setOwner(k, place, i+1)
	r.setWord(labelAt(k), r.word(0))
	r.setWord(labelAt(k)+turnAt, turn)
	l := w.numbers()
	// It is written, though the same row may have stood there: so the transaction's next one is laid beside it.
	if e := s.overlay(s.shelf(k), rowAt(place), lay(l[:]...)); e != api.OK {
		return e
	}
	return s.keep(r, labelAt(k))
}
