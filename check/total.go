package check

// total is a sum of two ints, which may be beyond all ints.
type total struct {
	rounds int // 1 above the greatest int, -1 below the least one
	rest   int // the sum, as an int has it
}

// add is their sum.
func add(a, b int) (t total) {
	t.rest = a + b
	switch {
	case b > 0 && t.rest < a:
		t.rounds = 1
	case b < 0 && t.rest > a:
		t.rounds = -1
	}
	return t
}

// above is whether a sum is greater than n.
func (t total) above(n int) bool {
	return t.rounds > 0 || t.rounds == 0 && t.rest > n
}
