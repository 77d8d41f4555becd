// Package trees: which lists of entries are trees, and how two trees differ.
package trees

import (
	"convoy/api"
	"convoy/paths"
)

// MaxHeld is how many entries a volume may hold.
const MaxHeld = 2 * api.MaxEntries

// Check tells the first entry of l that may not be, and why.
func Check(l []api.Entry, fold bool) (api.Errno, int) {
	return check(l, fold, api.MaxEntries, isNamed)
}

// CheckHeld is Check of what a volume holds.
func CheckHeld(l []api.Entry, fold bool) (api.Errno, int) {
	return check(l, fold, MaxHeld, MayHold)
}

// MayHold tells whether an entry of this name may stand on a volume, where files have spare names, too.
func MayHold(e api.Entry) bool {
	return isNamed(e) || !e.Dir && paths.IsSpare(e.Path)
}

func isNamed(e api.Entry) bool { return paths.IsPath(e.Path) }

func check(l []api.Entry, fold bool, most int, named func(api.Entry) bool) (api.Errno, int) {
	if len(l) > most {
		return api.ErrMany, 0
	}
	for i := range l {
		if !named(l[i]) {
			return api.ErrName, i
		}
		if e := entryError(l, i, fold); e != api.OK {
			return e, i
		}
	}
	return api.OK, 0
}

// entryError may rely on the entries ahead of number i, which have been found right, and on its name.
func entryError(l []api.Entry, i int, fold bool) api.Errno {
	e := l[i]
	switch {
	case !fieldsFit(e):
		return api.ErrEntry
	case i > 0 && paths.Compare(l[i-1].Path, e.Path) >= 0:
		return api.ErrOrder
	case !hasParent(l, e.Path):
		return api.ErrParent
	case fold && Find(l[:i], e.Path, true) >= 0:
		return api.ErrExist
	case HasOtherSize(l[:i], e):
		return api.ErrSize
	}
	return api.OK
}

func fieldsFit(e api.Entry) bool {
	if e.Mode < 0 || e.Mode > api.MaxMode {
		return false
	}
	if e.Dir {
		return e.Id == 0 && e.Size == 0
	}
	return 1 <= e.Id && e.Id <= api.MaxId && 0 <= e.Size && e.Size <= api.MaxSize
}

// hasParent looks through the whole list: a parent that stands too far back is there all the same, and is itself out of order.
func hasParent(l []api.Entry, path string) bool {
	parent := paths.Parent(path)
	if parent == "" {
		return true
	}
	i := Find(l, parent, false)
	return i >= 0 && l[i].Dir
}

// HasOtherSize tells whether a file of l has what is in e and another Size. A directory is never at fault: all of them have the Id 0 and the Size 0.
func HasOtherSize(l []api.Entry, e api.Entry) bool {
	for _, other := range l {
		if other.Id == e.Id && other.Size != e.Size {
			return true
		}
	}
	return false
}
