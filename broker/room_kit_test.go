package broker_test

import (
	"fmt"

	"bollard/api"
)

// fills is how many files take blocks.
const fills = 40

// prepares makes the files by which takes takes blocks: their names need blocks, too. Where there are more blocks than those files can take, great ones take the rest.
func (k *kit) prepares() {
	k.t.Helper()
	k.do(k.f.Mkdir("/fill"))
	for i := range fills {
		k.do(k.f.Create(fmt.Sprint("/fill/", i)))
	}
	for i := 0; k.spare() > fills*api.Direct; i++ {
		path := fmt.Sprint("/fill/great", i)
		k.do(k.f.Create(path))
		for n := 20; n <= 120 && k.spare() > fills*api.Direct-50; n += 20 {
			k.do(k.f.Truncate(path, n*api.Block))
		}
	}
}

// spare is how many data blocks are free.
func (k *kit) spare() int {
	blocks, _ := k.f.Free()
	return blocks
}

// takes takes data blocks, up to ten by each file of those that were prepared, until so many are free.
func (k *kit) takes(left int) {
	k.t.Helper()
	for i := range fills {
		blocks, _ := k.f.Free()
		if blocks <= left {
			break
		}
		s, _ := k.f.Stat(fmt.Sprint("/fill/", i))
		has := s.Size / api.Block
		k.do(k.f.Truncate(fmt.Sprint("/fill/", i), min(has+blocks-left, api.Direct)*api.Block))
	}
	if blocks, _ := k.f.Free(); blocks != left {
		k.t.Fatalf("the test's own device has %d blocks left, not %d", blocks, left)
	}
}

// leaves is both.
func (k *kit) leaves(left int) {
	k.t.Helper()
	k.prepares()
	k.takes(left)
}

// leavesInodes takes inodes, until so many are free.
func (k *kit) leavesInodes(left int) {
	k.t.Helper()
	k.do(k.f.Mkdir("/taken"))
	for i := 0; ; i++ {
		if _, inodes := k.f.Free(); inodes == left {
			return
		}
		k.do(k.f.Create(fmt.Sprint("/taken/", i)))
	}
}
