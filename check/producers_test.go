package check_test

import (
	"testing"

	"bollard/api"
)

// someNumbers are those of producers and of their batches.
func someNumbers() []int {
	return []int{least, least + 1, -7, -1, 0, 1, 2, 7, 1 << 32, most - 1, most}
}

// TestTwoBases: a producer's number is at one Base; what is nobody's, or of a producer below 0, is not looked at.
func TestTwoBases(t *testing.T) {
	for _, producer := range someNumbers() {
		for _, seq := range someNumbers() {
			want := 4
			if producer <= 0 {
				want = 0
			}
			k := known(t, told(0, 20, bat(4, 2, producer, seq, bare("v", 1))))
			for _, base := range []int{2, 3, 5, 6, 9, 18} {
				k.saw("P24.1", want, told(0, 20, bat(base, 2, producer, seq)))
			}
			k.saw("P24.1", 0, told(0, 20, bat(4, 2, producer, seq, bare("v", 1))))
			k.saw("P24.1", 0, told(0, 20, bat(4, 2, producer, seq)))
		}
	}
}

// TestOtherNumbers: each pair of a producer and a number is by itself.
func TestOtherNumbers(t *testing.T) {
	for _, producer := range someNumbers() {
		for _, seq := range someNumbers() {
			k := known(t, told(0, 20, bat(4, 2, 7, 7)))
			want := 0
			if producer == 7 && seq == 7 {
				want = 4
			}
			k.saw("P24.1", want, told(0, 20, bat(6, 2, producer, seq)))
			if want == 0 && producer > 0 {
				k.saw("P24.1", 4, told(0, 20, bat(4, 2, producer, seq)))
			}
			k.saw("P24.1", 0, told(0, 20, bat(4, 2, 7, 7)))
			k.saw("P24.1", 4, told(0, 20, bat(6, 2, 7, 7)))
		}
	}
}

// TestOneBase: unlike producers and numbers may be told at one Base, and the Span does not matter.
func TestOneBase(t *testing.T) {
	k := made(t)
	for _, b := range []api.Batch{bat(4, 2, 7, 0), bat(4, 2, 8, 0), bat(4, 2, 7, 1), bat(4, 9, 7, 0), bat(4, 1, 8, 0), bat(4, 2, 0, 0), bat(4, 2, -7, 0), bat(4, 2, 7, -1)} {
		k.saw("P24.1", 0, told(0, 20, b))
	}
	for _, b := range []api.Batch{bat(5, 2, 7, 0), bat(3, 9, 8, 0), bat(6, 1, 7, 1), bat(0, 5, 7, -1)} {
		k.saw("P24.1", 4, told(0, 20, b))
	}
}

// TestSeqTwiceInOneFetch: a producer's number that comes twice within one fetch.
func TestSeqTwiceInOneFetch(t *testing.T) {
	for _, producer := range someNumbers() {
		want := 4
		if producer <= 0 {
			want = 0
		}
		k := made(t)
		k.saw("P24.1", want, told(0, 20, bat(2, 2, producer, 3), bat(4, 2, producer, 3)))
		k.saw("P24.1", want, told(0, 20, bat(2, 2, producer, 3), at(4, 1, "v"), bat(8, 2, 9, 3), bat(11, 1, producer, 3)))
		k.saw("P24.1", 0, told(0, 20, bat(2, 2, producer, 3), bat(4, 2, producer, 4), bat(6, 2, 77, 3)))
		k = made(t) // neither of the two is known behind it
		k.saw("P24.1", want, told(0, 20, bat(2, 2, producer, 3), bat(4, 2, producer, 3)))
		k.saw("P24.1", 0, told(0, 20, bat(9, 2, producer, 3)))
		k.saw("P24.1", want, told(0, 20, bat(2, 2, producer, 3)))
	}
}

// TestBelowStart: a number is known also when its batch is gone.
func TestBelowStart(t *testing.T) {
	k := known(t, told(0, 20, bat(4, 2, 7, 0)), told(10, 20), told(10, 30, bat(28, 2, 7, 1)))
	k.saw("P24.1", 4, told(10, 30, bat(12, 2, 7, 0)))
	k.saw("P24.1", 4, told(10, 30, bat(28, 2, 7, 0)))
	k.saw("P24.1", 0, toldFrom(0, 10, 30, api.Batch{Base: 4, Span: 7, Producer: 7}))
}
