package inode

import (
	"bollard/api"
	"bollard/bits"
)

// numberSize is how many bytes a number of a block has: enough for any block.
const numberSize = 2

// Kinds of inodes. What has none of these is no inode.
const (
	File = 1 + iota
	Directory
)

// most is how many data blocks the greatest file has.
const most = api.MaxFile / api.Block

// row is what the table has of an inode beside its size.
type row struct {
	kind   int
	index  int             // the block that holds the numbers behind these
	direct [api.Direct]int // its first blocks
}

// node is an inode: a value, which is read, turned and laid back. Of its blocks those that its size asks for are its own; further numbers mean nothing.
type node struct {
	row
	size int
}

// list is the numbers of all data blocks of a file, in their order.
type list [most]int

// fields is how many numbers a row has.
const fields = 2 + api.Direct

// numbers are a row's, in the order in which the table has them.
func (r row) numbers() (l [fields]int) {
	l[0], l[1] = r.kind, r.index
	copy(l[2:], r.direct[:])
	return l
}

// rowOf is the row of such numbers.
func rowOf(l [fields]int) row {
	return row{l[0], l[1], [api.Direct]int(l[2:])}
}

// there is whether a node is one that a Store laid.
func (n node) there() bool {
	return isKind(n.kind) && n.size <= api.MaxFile
}

// isKind is whether an inode may have that kind.
func isKind(kind int) bool {
	return kind == File || kind == Directory
}

// lay is numbers as bytes; of those that have more, the least ones.
func lay(l ...int) (b []byte) {
	for _, v := range l {
		one, _ := bits.Put(make([]byte, numberSize), 0, numberSize, false, uint64(v))
		b = append(b, one...)
	}
	return b
}

// pick reads as many numbers as l has.
func pick(b []byte, l []int) {
	for i := range l {
		v, _ := bits.Get(b, i*numberSize, numberSize, false)
		l[i] = int(v)
	}
}

// dataBlocks is in how many blocks so many bytes lie.
func dataBlocks(size int) int {
	return (size + api.Block - 1) / api.Block
}

// hasIndex is whether a file of that size has a block of numbers.
func hasIndex(size int) bool {
	return dataBlocks(size) > api.Direct
}

// blocks is how many a file of that size has.
func blocks(size int) int {
	if hasIndex(size) {
		return dataBlocks(size) + 1
	}
	return dataBlocks(size)
}

// piece is a part of a file that lies within one of its blocks.
type piece struct {
	block    int // which of them
	from, to int // its bytes there
}

// pieces are the parts in which the bytes of a file from at to end lie.
func pieces(at, end int) (l []piece) {
	for at < end {
		from := at % api.Block
		to := min(api.Block, from+end-at)
		l = append(l, piece{at / api.Block, from, to})
		at += to - from
	}
	return l
}
