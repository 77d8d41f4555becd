package trees

import (
	"slices"

	"convoy/api"
	"convoy/paths"
)

// Find gives the number of the entry that path is of, where names fold or where they don't, or -1.
func Find(l []api.Entry, path string, fold bool) int {
	return slices.IndexFunc(l, func(e api.Entry) bool {
		return paths.Same(e.Path, path, fold)
	})
}

// FindId gives the number of the first file with this Id, or -1.
func FindId(l []api.Entry, id int) int {
	return slices.IndexFunc(l, func(e api.Entry) bool { return e.Id == id })
}
