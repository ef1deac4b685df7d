package inode

import (
	"bollard/api"
	"bollard/bits"
)

// The register has a head, which is a stamp, and a label for each shelf. All of these have that many bytes, so that none lies in two blocks.
const (
	labelSize = 64
	wordSize  = 4
)

// What lies in a label: a stamp, the turn in which the shelf was written, and whose rows it has. An owner is an inode's number and one; 0: the place is free.
const (
	turnAt   = wordSize
	ownersAt = 2 * wordSize
)

// register is the bytes of one.
type register []byte

// labelAt is where a label stands, behind the head.
func labelAt(k int) int {
	return labelSize * (k + 1)
}

// ownerAt is where an owner stands.
func ownerAt(k, place int) int {
	return labelAt(k) + ownersAt + numberSize*place
}

// word is one of the greater numbers.
func (r register) word(at int) int {
	v, _ := bits.Get(r, at, wordSize, false)
	return int(v)
}

// setWord lays one.
func (r register) setWord(at, v int) {
	b, _ := bits.Put(r[at:at+wordSize], 0, wordSize, false, uint64(v))
	copy(r[at:], b)
}

// shelves is of how many it tells.
func (r register) shelves() int {
	return len(r)/labelSize - 1
}

// turn is when a shelf was written; 0: never, or ahead of the last Format, which took another stamp.
func (r register) turn(k int) int {
	if r.word(labelAt(k)) != r.word(0) {
		return 0
	}
	return r.word(labelAt(k) + turnAt)
}

// last is the last turn of all.
func (r register) last() (turn int) {
	for k := range r.shelves() {
		turn = max(turn, r.turn(k))
	}
	return turn
}

// owner is whose row has a place.
func (r register) owner(k, place int) int {
	v, _ := bits.Get(r, ownerAt(k, place), numberSize, false)
	return int(v)
}

// setOwner gives a place to a row.
func (r register) setOwner(k, place, owner int) {
	copy(r[ownerAt(k, place):], lay(owner))
}

// find is the place of an owner's row on a shelf; of the owner 0 the first one that is free; -1: there is none.
func (r register) find(k, owner int) int {
	for place := range places {
		if r.owner(k, place) == owner {
			return place
		}
	}
	return -1
}

// free is how many places of a shelf are.
func (r register) free(k int) (n int) {
	for place := range places {
		if r.owner(k, place) == 0 {
			n++
		}
	}
	return n
}

// latest is, of each owner up to the greatest one, the turn of the last shelf that has a row of it.
func (r register) latest(greatest int) []int {
	l := make([]int, greatest+1)
	for k := range r.shelves() {
		turn := r.turn(k)
		for place := range places {
			if owner := r.owner(k, place); owner <= greatest {
				l[owner] = max(l[owner], turn)
			}
		}
	}
	return l
}

// stampAnew takes a stamp that no label has: so all of them are void, and none need be written.
func (r register) stampAnew() {
	used := map[int]struct{}{}
	for k := range r.shelves() {
		used[r.word(labelAt(k))] = struct{}{}
	}
	for stamp := 1; ; stamp++ {
		if _, is := used[stamp]; !is {
			r.setWord(0, stamp)
			return
		}
	}
}

// registerAt is the byte of the table at which the register begins.
func (s *Store) registerAt() int {
	return (s.sizesEnd() + labelSize - 1) / labelSize * labelSize
}

// register is the table's, in memory of its own.
func (s *Store) register() (register, api.Errno) {
	from := s.registerAt()
	skip, size := from%api.Block, labelAt(s.shelves())
	b := make([]byte, 0, skip+size+api.Block)
	for len(b) < skip+size {
		one, e := s.c.Read(s.home(from + len(b)))
		if e != api.OK {
			return nil, e
		}
		b = append(b, one...)
	}
	return b[skip : skip+size], api.OK
}

// keep lays the head (at 0), or a label, of a register into the table.
func (s *Store) keep(r register, at int) api.Errno {
	to := s.registerAt() + at
	return s.patch(s.home(to), to%api.Block, r[at:at+labelSize])
}
