package volumes

import (
	"math"
	"slices"

	"convoy/api"
	"convoy/scripts"
	"convoy/trees"
)

// Try tells what comes of a script on the tree s, and how much space it needs; or the first operation that doesn't go, and why.
func Try(s []api.Entry, fold bool, l []api.Op) ([]api.Entry, int, api.Errno, int) {
	way, e, at := course(s, fold, l)
	if e != api.OK {
		return nil, 0, e, at
	}
	most := 0
	for _, tree := range way {
		most = max(most, sizes(tree))
	}
	return slices.Clone(way[len(l)]), most, api.OK, 0
}

// course gives the trees that come of a script's first operations: of none, of one, and so on to all. They are to be read alone: the first is s itself.
func course(s []api.Entry, fold bool, l []api.Op) ([][]api.Entry, api.Errno, int) {
	if e, _ := trees.Check(s, fold); e != api.OK {
		return nil, api.ErrEntry, 0
	}
	if at, wrong := scripts.FirstWrong(l); wrong {
		return nil, api.ErrScript, at
	}
	v := Volume{entries: s, fold: fold, space: math.MaxInt}
	way := [][]api.Entry{s}
	for i, o := range l {
		if e := v.Do(o); e != api.OK {
			return nil, e, i
		}
		way = append(way, v.entries)
	}
	return way, api.OK, 0
}
