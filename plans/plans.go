// Package plans: scripts that turn one tree into another, and lose nothing that both have.
package plans

import (
	"convoy/api"
	"convoy/trees"
)

// Plan makes a script that turns the tree s into the tree t; what s doesn't have is written out of the store.
func Plan(s, t []api.Entry, fold bool, store []int) ([]api.Op, api.Errno, int) {
	if e, at := refusal(s, t, fold, store); e != api.OK {
		return nil, e, at
	}
	return inOrder(steps(s, t, fold)), api.OK, 0
}

// refusal tells why there is no plan, and which tree or Id is at fault.
func refusal(s, t []api.Entry, fold bool, store []int) (api.Errno, int) {
	for i, l := range [][]api.Entry{s, t} {
		if e, _ := trees.Check(l, fold); e != api.OK {
			return api.ErrEntry, i
		}
	}
	for _, e := range t {
		if trees.HasOtherSize(s, e) {
			return api.ErrSize, 0
		}
	}
	if id := missing(s, t, store); id != 0 {
		return api.ErrStore, id
	}
	return api.OK, 0
}

// missing gives the least Id of t that neither s nor the store has, or 0.
func missing(s, t []api.Entry, store []int) int {
	least := 0
wanted:
	for _, e := range t {
		if e.Dir || trees.FindId(s, e.Id) >= 0 || least != 0 && least <= e.Id {
			continue
		}
		for _, id := range store {
			if id == e.Id {
				continue wanted
			}
		}
		least = e.Id
	}
	return least
}
