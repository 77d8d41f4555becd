package volumes

import (
	"math"

	"convoy/api"
	"convoy/scripts"
	"convoy/trees"
)

// Try tells what comes of a script on the tree s, and how much space it needs; or the first operation that doesn't go, and why.
func Try(s []api.Entry, fold bool, l []api.Op) ([]api.Entry, int, api.Errno, int) {
	if e, _ := trees.Check(s, fold); e != api.OK {
		return nil, 0, api.ErrEntry, 0
	}
	if at, wrong := scripts.FirstWrong(l); wrong {
		return nil, 0, api.ErrScript, at
	}
	v := Volume{entries: s, fold: fold, space: math.MaxInt}
	most := sizes(v.entries)
	for i, o := range l {
		if e := v.Do(o); e != api.OK {
			return nil, 0, e, i
		}
		most = max(most, sizes(v.entries))
	}
	return v.Tree(), most, api.OK, 0
}
