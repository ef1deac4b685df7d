package inode

import (
	"testing"

	"bollard/api"
	"bollard/layout"
)

// TestAreas: of any number of inodes what lies in the table has room in it, and no two things share a byte.
func TestAreas(t *testing.T) {
	for inodes := 1; inodes <= api.MaxInodes; inodes++ {
		p, e := layout.Make(2000, inodes)
		if e != api.OK {
			t.Fatalf("Make(2000, %d) = %d", inodes, e)
		}
		s := New(nil, nil, p)
		end := s.registerAt() + labelAt(s.shelves())
		// The rows of a table of one block stand behind the register; those of others have blocks of their own.
		room := (s.shelf(0) - p.Table) * api.Block
		if p.Data-p.Table == 1 {
			room = rowAt(inodes - 1)
		}
		if end > room {
			t.Errorf("%d inodes: sizes and register have %d bytes, where %d are left", inodes, end, room)
		}
		if s.registerAt() < s.sizesEnd() || s.registerAt()%labelSize != 0 {
			t.Errorf("%d inodes: the register begins at %d, sizes end at %d", inodes, s.registerAt(), s.sizesEnd())
		}
		if block, bit := s.lastDigit(inodes - 1); (block-p.Table)*api.Block+bit/8 >= s.sizesEnd() {
			t.Errorf("%d inodes: the last digit lies behind the sizes", inodes)
		}
		// The fullest shelves there can be leave five places on one of them.
		if places-inodes/s.shelves() < 5 || s.shelf(s.shelves()) != p.Data {
			t.Errorf("%d inodes have %d shelves", inodes, s.shelves())
		}
	}
	if rowAt(places-1) < 0 || ownerAt(0, places) > labelAt(1) {
		t.Error("a shelf, or its label, has not so many places")
	}
}
