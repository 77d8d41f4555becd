package plans

import (
	"convoy/api"
	"convoy/paths"
	"convoy/trees"
)

// step is an operation that waits for others.
type step struct {
	op    api.Op
	waits int   // for how many others
	freed []int // the steps that wait until nothing is at its Path
	made  []int // the steps that wait until that which it makes is there
}

// draft is all steps of a plan. Those that give space back are the first, and wait for none; those that take space are the last, and none waits for them: so a plan needs no more space than the greater of its trees.
type draft struct {
	match
	steps  []step
	leaves []int // of each entry of s, the step that takes it from its place
	comes  []int // of each entry of t, the step that brings it to its place
}

func steps(s, t []api.Entry, fold bool) []step {
	d := draft{match: newMatch(s, t, fold), leaves: numbers(len(s)), comes: numbers(len(t))}
	d.takeAway()
	d.carryOver()
	d.makeDirs()
	d.fillFiles()
	d.waitForEmpty()
	d.waitForPlace()
	return d.steps
}

func (d *draft) takeAway() {
	for i, e := range d.s {
		if d.to[i] != none {
			continue
		}
		kind := api.Unlink
		if e.Dir {
			kind = api.Rmdir
		}
		d.leaves[i] = d.add(api.Op{Kind: kind, Path: e.Path})
	}
}

func (d *draft) carryOver() {
	for i, was := range d.s {
		j := d.to[i]
		if j == none {
			continue
		}
		now := d.t[j]
		// Names above the last one are its parents' own to change.
		if d.moves(i) || paths.Last(was.Path) != paths.Last(now.Path) {
			d.comes[j] = d.add(api.Op{Kind: api.Rename, Path: was.Path, To: now.Path})
		}
		if d.moves(i) {
			d.leaves[i] = d.comes[j]
		}
		if was.Mode != now.Mode {
			d.waitMade(d.add(api.Op{Kind: api.Chmod, Path: now.Path, Mode: now.Mode}), d.comes[j])
		}
	}
}

func (d *draft) makeDirs() {
	for j, e := range d.t {
		if e.Dir && d.from[j] == none {
			d.comes[j] = d.add(api.Op{Kind: api.Mkdir, Path: e.Path, Mode: e.Mode})
		}
	}
}

func (d *draft) fillFiles() {
	for j, e := range d.t {
		if e.Dir || d.from[j] != none {
			continue
		}
		holder := d.holder(e.Id)
		if holder == none {
			d.comes[j] = d.add(api.Op{Kind: api.Write, Path: e.Path, Id: e.Id, Size: e.Size, Mode: e.Mode})
			continue
		}
		d.comes[j] = d.add(api.Op{Kind: api.Copy, Path: d.t[holder].Path, To: e.Path, Mode: e.Mode})
		d.waitMade(d.comes[j], d.comes[holder])
	}
}

// waitForEmpty lets directories go behind what is in them.
func (d *draft) waitForEmpty() {
	for i, e := range d.s {
		parent := trees.Find(d.s, paths.Parent(e.Path), false)
		if parent != none && d.leaves[parent] != none {
			d.waitFreed(d.leaves[parent], d.leaves[i])
		}
	}
}

// waitForPlace lets things come behind what stands in their place, and behind the directory that they come into.
func (d *draft) waitForPlace() {
	for j, e := range d.t {
		if d.comes[j] == none {
			continue
		}
		if i := trees.Find(d.s, e.Path, d.fold); i != none {
			d.waitFreed(d.comes[j], d.leaves[i])
		}
		if parent := trees.Find(d.t, paths.Parent(e.Path), false); parent != none {
			d.waitMade(d.comes[j], d.comes[parent])
		}
	}
}

func (d *draft) add(o api.Op) int {
	d.steps = append(d.steps, step{op: o})
	return len(d.steps) - 1
}

// waitFreed lets step k wait until the step other, if there is one, has freed its Path.
func (d *draft) waitFreed(k, other int) {
	if other != none {
		d.steps[k].waits++
		d.steps[other].freed = append(d.steps[other].freed, k)
	}
}

// waitMade lets step k wait until that which the step other makes, if there is one, is there.
func (d *draft) waitMade(k, other int) {
	if other != none {
		d.steps[k].waits++
		d.steps[other].made = append(d.steps[other].made, k)
	}
}
