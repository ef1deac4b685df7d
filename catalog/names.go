package catalog

import (
	"strconv"
	"strings"
)

// The names of what this package makes. That of the file is not of the form that directories of topics have.
const (
	fileName      = "catalog"
	producersName = "producers"
	topicMark     = "t"
	partMark      = "-"
)

// join is the path of a name in a directory, which may be the root.
func join(dir, name string) string {
	return strings.TrimSuffix(dir, "/") + "/" + name
}

// nameOf is the name of a part's directory.
func nameOf(id, part int) string {
	return topicMark + strconv.Itoa(id) + partMark + strconv.Itoa(part)
}

// idOf is the topic's ID in the name of a part's directory; false: it is none. A number with noughts or a plus ahead, or with more digits than an int has, is told otherwise by nameOf; one below 0 is no part's.
func idOf(name string) (int, bool) {
	first, second, _ := strings.Cut(strings.TrimPrefix(name, topicMark), partMark)
	id, _ := strconv.Atoi(first)
	part, _ := strconv.Atoi(second)
	if part < 0 || nameOf(id, part) != name {
		return 0, false
	}
	return id, true
}

// Dir is a part's directory.
func (c *Catalog) Dir(t Topic, part int) string {
	if !c.stands() {
		return ""
	}
	return join(c.dir, nameOf(t.ID, part))
}
