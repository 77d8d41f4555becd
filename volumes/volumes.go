// Package volumes: trees that operations are done on, one by one.
package volumes

import (
	"slices"
	"strings"

	"convoy/api"
	"convoy/paths"
	"convoy/trees"
)

// Volume holds a tree and a journal.
type Volume struct {
	// Never written into: a change makes a new list, so that an operation that fails midway leaves all as it was, and Try can begin with its caller's.
	entries []api.Entry
	fold    bool
	space   int
	journal string
}

// Mount makes a volume, which is nothing beside an error.
func Mount(l []api.Entry, fold bool, space int, journal string) (Volume, api.Errno) {
	if e, _ := trees.CheckHeld(l, fold); e != api.OK {
		return Volume{}, api.ErrEntry
	}
	// No sum of Sizes is below 0, so that no such space goes, either.
	if space < sizes(l) || space > api.MaxSpace {
		return Volume{}, api.ErrFull
	}
	return Volume{entries: copied(l), fold: fold, space: space, journal: strings.Clone(journal)}, api.OK
}

// Tree gives the entries, in the order of paths.
func (v *Volume) Tree() []api.Entry { return slices.Clone(v.entries) }

// Journal gives the journal's bytes.
func (v *Volume) Journal() string { return v.journal }

// copied takes the texts over, too: nothing that is handed in is kept.
func copied(l []api.Entry) []api.Entry {
	own := slices.Clone(l)
	for i := range own {
		own[i].Path = strings.Clone(own[i].Path)
	}
	return own
}

// sizes is how much space the files take.
func sizes(l []api.Entry) int {
	sum := 0
	for _, e := range l {
		sum += e.Size
	}
	return sum
}

// find gives the number of the entry that path is of here, or -1.
func (v *Volume) find(path string) int {
	return trees.Find(v.entries, path, v.fold)
}

// place gives the path under which a thing told as path would stand: its last name as told, its parent as that stands here.
func (v *Volume) place(path string) (string, api.Errno) {
	parent := paths.Parent(path)
	if parent == "" {
		return strings.Clone(path), api.OK
	}
	i := v.find(parent)
	if i < 0 || !v.entries[i].Dir {
		return "", api.ErrParent
	}
	return v.entries[i].Path + path[len(parent):], api.OK
}

func byPath(a, b api.Entry) int { return paths.Compare(a.Path, b.Path) }
