package producers

import (
	"slices"

	"bollard/api"
	"bollard/bits"
)

// The file is a row for each producer that is known, in the order in which they came; a row is three numbers, the greatest byte first.
const (
	numberBytes = 8
	producerAt  = 0
	seqAt       = producerAt + numberBytes
	baseAt      = seqAt + numberBytes
	rowBytes    = baseAt + numberBytes
	mostBytes   = api.MaxProds * rowBytes
)

// row is what the file tells of a producer.
type row struct {
	producer int
	seq      int
	base     int
}

// isProducer is whether a producer may have that number.
func isProducer(n int) bool {
	return n >= 1
}

// isSeq is whether a batch may have that number.
func isSeq(n int) bool {
	return n >= 0
}

// mayBe is whether all of a row's numbers may be.
func (r row) mayBe() bool {
	return isProducer(r.producer) && isSeq(r.seq) && r.base >= 0 && r.base <= api.MaxOffset
}

// lay is a row's bytes.
func (r row) lay() []byte {
	b := make([]byte, rowBytes)
	b, _ = bits.Put(b, producerAt, numberBytes, true, uint64(r.producer))
	b, _ = bits.Put(b, seqAt, numberBytes, true, uint64(r.seq))
	b, _ = bits.Put(b, baseAt, numberBytes, true, uint64(r.base))
	return b
}

// number is one of a row's. What is too great for an int comes out below 0: such a number may not be, either.
func number(b []byte, at int) int {
	u, _ := bits.Get(b, at, numberBytes, true)
	return int(u)
}

// rowOf is the row of those bytes.
func rowOf(b []byte) row {
	return row{number(b, producerAt), number(b, seqAt), number(b, baseAt)}
}

// unlay is who is known by the bytes of a file; false: they are not such as this package writes.
func unlay(b []byte) (map[int]last, bool) {
	if len(b) > mostBytes || len(b)%rowBytes != 0 {
		return nil, false
	}
	known := map[int]last{}
	for piece := range slices.Chunk(b, rowBytes) {
		r := rowOf(piece)
		if _, twice := known[r.producer]; twice || !r.mayBe() {
			return nil, false
		}
		known[r.producer] = last{r.seq, r.base, len(known)}
	}
	return known, true
}
