package catalog_test

import (
	"fmt"
	"maps"
	"slices"
	"sort"
	"strings"

	"bollard/api"
	"bollard/catalog"
)

// plain is a catalog as the chapter says it: topics by their names, and the directories with the names in them.
type plain struct {
	dir     string
	topics  map[string]catalog.Topic
	last    int
	folders map[string][]string
}

func newPlain(dir string) *plain {
	return &plain{dir: dir, topics: map[string]catalog.Topic{}, folders: map[string][]string{}}
}

func (q *plain) clone() *plain {
	folders := map[string][]string{}
	for name, l := range q.folders {
		folders[name] = slices.Clone(l)
	}
	return &plain{q.dir, maps.Clone(q.topics), q.last, folders}
}

// isName is 9's Name.
func isName(s string) bool {
	return len(s) > 0 && len(s) <= 50 && s != "." && s != ".." && !strings.ContainsAny(s, "/\x00")
}

// isSet is 15's Settings.
func isSet(s api.Settings) bool {
	return s.Segment >= 512 && s.Segment <= 8192 && s.Bytes >= -1 && s.Bytes <= 1<<40 && s.Age >= -1 && s.Age <= end && s.Delay >= 0 && s.Delay <= end
}

func (q *plain) create(name string, parts int, s api.Settings) (catalog.Topic, api.Errno) {
	_, there := q.topics[name]
	switch {
	case !isName(name) || parts < 1 || parts > 8 || !isSet(s):
		return catalog.Topic{}, arg
	case there:
		return catalog.Topic{}, exist
	case len(q.topics) == limit:
		return catalog.Topic{}, big
	}
	for i := range parts {
		if _, there := q.folders[folder(q.last+1, i)]; there {
			return catalog.Topic{}, exist
		}
	}
	q.last++
	t := catalog.Topic{Name: name, ID: q.last, Parts: parts, Set: s}
	q.topics[name] = t
	for i := range parts {
		q.folders[folder(t.ID, i)] = []string{"00000000000000000000", "producers"}
	}
	return t, ok
}

func (q *plain) delete(name string) api.Errno {
	if _, there := q.topics[name]; !there {
		return none
	}
	delete(q.topics, name)
	return ok
}

func (q *plain) list() (l []catalog.Topic) {
	for _, name := range slices.Sorted(maps.Keys(q.topics)) {
		l = append(l, q.topics[name])
	}
	return l
}

// orphans are the directories of the form that no topic has, by rising names.
func (q *plain) orphans() (l []string) {
	for name := range q.folders {
		var id, n int
		_, err := fmt.Sscanf(name, "t%d-%d", &id, &n)
		if err != nil || folder(id, n) != name || id < 0 || n < 0 {
			continue
		}
		if !slices.ContainsFunc(q.list(), func(t catalog.Topic) bool { return t.ID == id }) {
			l = append(l, name)
		}
	}
	sort.Strings(l)
	return l
}

func (q *plain) sweep() bool {
	l := q.orphans()
	if len(l) == 0 {
		return false
	}
	if inside := q.folders[l[0]]; len(inside) > 0 {
		q.folders[l[0]] = inside[1:]
	} else {
		delete(q.folders, l[0])
	}
	return true
}

// folder is the name of a part's directory.
func folder(id, n int) string {
	return fmt.Sprint("t", id, "-", n)
}
