package trees

import (
	"convoy/api"
	"convoy/paths"
)

// Diff tells, in the order of paths, what the tree t has otherwise than the tree s.
func Diff(s, t []api.Entry) ([]api.Change, api.Errno) {
	if !isTree(s) || !isTree(t) {
		return nil, api.ErrEntry
	}
	var changes []api.Change
	i, j := 0, 0
	for i < len(s) || j < len(t) {
		switch side := nextSide(s[i:], t[j:]); {
		case side < 0:
			changes = append(changes, api.Change{Path: s[i].Path, Kind: api.Gone})
			i++
		case side > 0:
			changes = append(changes, api.Change{Path: t[j].Path, Kind: api.Made, From: source(s, t[j])})
			j++
		default:
			if s[i] != t[j] {
				changes = append(changes, change(s, s[i], t[j]))
			}
			i++
			j++
		}
	}
	return changes, api.OK
}

func isTree(l []api.Entry) bool {
	e, _ := Check(l, false)
	return e == api.OK
}

// nextSide is below 0 if the first path is of s alone, above 0 if it is of t alone; one of the lists has entries.
func nextSide(s, t []api.Entry) int {
	switch {
	case len(t) == 0:
		return -1
	case len(s) == 0:
		return 1
	}
	return paths.Compare(s[0].Path, t[0].Path)
}

// change is of one path that has the unlike entries was and now; s is the tree that was is in.
func change(s []api.Entry, was, now api.Entry) api.Change {
	switch {
	case was.Dir != now.Dir:
		return api.Change{Path: now.Path, Kind: api.Turned, From: source(s, now)}
	case was.Id != now.Id || was.Size != now.Size:
		return api.Change{Path: now.Path, Kind: api.Changed, From: source(s, now)}
	}
	return api.Change{Path: now.Path, Kind: api.Moded}
}

// source gives the first path of s that has what is in e, or nothing.
func source(s []api.Entry, e api.Entry) string {
	if e.Dir {
		return ""
	}
	i := FindId(s, e.Id)
	if i < 0 {
		return ""
	}
	return s[i].Path
}
