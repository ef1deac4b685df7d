package groups_test

import (
	"cmp"
	"maps"
	"slices"
	"strings"

	"bollard/api"
	"bollard/groups"
)

// plain is committed offsets as the chapter says them: a map, and what was committed, one behind the other.
type plain struct {
	dir   string
	known map[groups.Key]int
	all   []entry
}

// entry is a Commit that was not refused.
type entry struct {
	key    groups.Key
	offset int
	now    int
}

func newPlain(dir string) *plain {
	return &plain{dir: dir, known: map[groups.Key]int{}}
}

func (q *plain) clone() *plain {
	return &plain{q.dir, maps.Clone(q.known), slices.Clone(q.all)}
}

// isName is 9's Name.
func isName(s string) bool {
	return len(s) > 0 && len(s) <= 50 && s != "." && s != ".." && !strings.ContainsAny(s, "/\x00")
}

func (q *plain) commit(x groups.Key, offset, now int) api.Errno {
	_, known := q.known[x]
	switch {
	case !isName(x.Group) || x.Topic < 1 || x.Topic > end || x.Part < 0 || x.Part > 7:
		return arg
	case offset < 0 || offset > end || now < 0 || now > end:
		return arg
	case !known && len(q.known) >= limit:
		return big
	}
	q.known[x] = offset
	q.all = append(q.all, entry{x, offset, now})
	return ok
}

func (q *plain) find(x groups.Key) (int, api.Errno) {
	offset, known := q.known[x]
	if !known {
		return 0, none
	}
	return offset, ok
}

// keys are those that are known, sorted.
func (q *plain) keys() []groups.Key {
	return slices.SortedFunc(maps.Keys(q.known), func(a, b groups.Key) int {
		return cmp.Or(cmp.Compare(a.Group, b.Group), cmp.Compare(a.Topic, b.Topic), cmp.Compare(a.Part, b.Part))
	})
}
