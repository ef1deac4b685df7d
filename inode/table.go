package inode

import (
	"bytes"

	"bollard/api"
	"bollard/bits"
)

// A size may need one binary digit more than a number of two bytes has: these digits stand in a map of bits behind the numbers.
const sizeDigits = 8 * numberSize

// inodes is of how many the table tells.
func (s *Store) inodes() int {
	return max(0, min(s.p.Inodes, api.MaxInodes))
}

// home is the block in which a byte of the table lies.
func (s *Store) home(at int) int {
	return s.p.Table + at/api.Block
}

// overlay writes a block with other bytes at a place.
func (s *Store) overlay(k, at int, part []byte) api.Errno {
	b, e := s.c.Read(k)
	if e != api.OK {
		return e
	}
	copy(b[at:], part)
	return s.c.Write(k, b)
}

// patch does so only where they are others: a block that stays as it is takes no room in the transaction.
func (s *Store) patch(k, at int, part []byte) api.Errno {
	b, e := s.c.Read(k)
	if e != api.OK || bytes.Equal(b[at:at+len(part)], part) {
		return e
	}
	return s.overlay(k, at, part)
}

// sizesEnd is the byte of the table behind all sizes.
func (s *Store) sizesEnd() int {
	return numberSize*s.inodes() + (s.inodes()+7)/8
}

// lastDigit is where the last binary digit of a size stands: the block, and which bit of it.
func (s *Store) lastDigit(i int) (block, bit int) {
	bit = 8*numberSize*s.inodes() + i
	return s.home(bit / 8), bit % (8 * api.Block)
}

// size is an inode's.
func (s *Store) size(i int) (int, api.Errno) {
	at := numberSize * i
	b, e := s.c.Read(s.home(at))
	if e != api.OK {
		return 0, e
	}
	size, _ := bits.Get(b, at%api.Block, numberSize, false)
	block, bit := s.lastDigit(i)
	b, e = s.c.Read(block)
	if e != api.OK {
		return 0, e
	}
	if bits.Test(b, bit) {
		size |= 1 << sizeDigits
	}
	return int(size), api.OK
}

// setSize lets an inode have another one.
func (s *Store) setSize(i, size int) api.Errno {
	at := numberSize * i
	if e := s.patch(s.home(at), at%api.Block, lay(size)); e != api.OK {
		return e
	}
	block, bit := s.lastDigit(i)
	b, e := s.c.Read(block)
	if e != api.OK {
		return e
	}
	return s.patch(block, 0, bits.Set(b, bit, size>>sizeDigits != 0))
}
