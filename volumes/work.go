package volumes

import (
	"slices"

	"convoy/api"
	"convoy/scripts"
)

// mark is put into the journal ahead of each operation, so that of those marked only the last may not be done yet, which the tree tells.
const mark = "+"

// Work carries a script out from the tree s, as far as the budget goes. All that it goes by is the tree and the journal, so that it doesn't matter where it was stopped, or how often.
func (v *Volume) Work(s []api.Entry, l []api.Op, budget int) (api.Errno, int) {
	way, e, at := course(s, v.fold, l)
	switch e {
	case api.OK:
	case api.ErrEntry:
		return e, 0
	default:
		return api.ErrScript, at
	}
	for {
		done := v.done(way)
		switch {
		case done < 0:
			return api.ErrSource, 0
		case done == len(l):
			return api.OK, done
		case budget <= 0:
			return api.ErrStop, 0
		}
		budget--
		if e := v.step(done, l[done]); e != api.OK {
			return e, done
		}
	}
}

// done tells how many operations are done, by the trees that come of them; or -1, where the tree is none that fits the journal.
func (v *Volume) done(way [][]api.Entry) int {
	marked := marks(v.journal, len(way)-1)
	// From the last one back: where it changes nothing it is as good as done.
	for n := marked; n >= max(0, marked-1); n-- {
		if slices.Equal(v.entries, way[n]) {
			return n
		}
	}
	return -1
}

// marks counts a journal's marks; bytes that are none of a script with that many operations give up.
func marks(journal string, ops int) int {
	for i := range len(journal) {
		if i == ops || journal[i:i+1] != mark {
			// Without a place: the number that Work tells is an operation's, and this is the fault of none.
			panic(scripts.Fault{Errno: api.ErrForm})
		}
	}
	return len(journal)
}

// step does the one thing that is next where so many operations are done, of which o follows.
func (v *Volume) step(done int, o api.Op) api.Errno {
	if len(v.journal) > done {
		return v.Do(o)
	}
	v.journal += mark
	return api.OK
}
