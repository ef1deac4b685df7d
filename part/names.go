package part

import (
	"strconv"
	"strings"

	"bollard/api"
)

// digits is how many a segment's name has.
const digits = 20

// beside is behind the name of a file that is written to be put in a segment's place.
const beside = ".new"

// nameOf is the name of the segment of a base. With noughts ahead, names rise as their bases do.
func nameOf(base int) string {
	text := strconv.Itoa(base)
	return strings.Repeat("0", digits-len(text)) + text
}

// baseOf is the base of the segment that has a name; false: none has.
func baseOf(name string) (int, bool) {
	base, err := strconv.Atoi(name)
	if err != nil || !within(base, 0, api.MaxOffset) || nameOf(base) != name {
		return 0, false
	}
	return base, true
}

// join is the path of a name in a directory, which may be the root.
func join(dir, name string) string {
	return strings.TrimSuffix(dir, "/") + "/" + name
}

// pathOf is where the segment of a base lies in a directory.
func pathOf(dir string, base int) string {
	return join(dir, nameOf(base))
}
