package plans

import (
	"container/heap"
	"slices"
	"sort"
	"strconv"

	"convoy/api"
)

// queue is a heap of numbers, the least ahead.
type queue struct{ sort.IntSlice }

func (q *queue) Push(x any) { q.IntSlice = append(q.IntSlice, x.(int)) }

func (q *queue) Pop() any {
	last := q.Len() - 1
	x := q.IntSlice[last]
	q.IntSlice = q.IntSlice[:last]
	return x
}

// run takes steps one by one, each behind those that it waits for.
type run struct {
	steps  []step
	ready  queue // the steps that wait for none
	ops    []api.Op
	spares int // how many spare names are used up
}

func inOrder(steps []step) []api.Op {
	r := run{steps: steps}
	for k := range steps {
		if steps[k].waits == 0 {
			heap.Push(&r.ready, k)
		}
	}
	r.takeReady()
	for k := r.knot(); k != none; k = r.knot() {
		r.stepAside(k)
		r.takeReady()
	}
	return r.ops
}

func (r *run) takeReady() {
	for r.ready.Len() > 0 {
		k := heap.Pop(&r.ready).(int)
		r.ops = append(r.ops, r.steps[k].op)
		r.free(k)
		r.release(r.steps[k].made)
	}
}

// free lets go on what waits for the Path of step k.
func (r *run) free(k int) {
	r.release(r.steps[k].freed)
	r.steps[k].freed = nil
}

func (r *run) release(waiting []int) {
	for _, k := range waiting {
		r.steps[k].waits--
		if r.steps[k].waits == 0 {
			heap.Push(&r.ready, k)
		}
	}
}

// knot gives the first move that waits for itself, by way of others. Directories are made from above and taken away from below, so that there is a move in each ring of steps.
func (r *run) knot() int {
	for k := range r.steps {
		if r.steps[k].op.Kind == api.Rename && r.waitsForItself(k) {
			return k
		}
	}
	return none
}

func (r *run) waitsForItself(k int) bool {
	seen := make([]bool, len(r.steps))
	waiting := slices.Clone(r.steps[k].freed)
	for len(waiting) > 0 {
		next := waiting[0]
		waiting = waiting[1:]
		if next == k {
			return true
		}
		if !seen[next] {
			seen[next] = true
			waiting = slices.Concat(waiting, r.steps[next].freed, r.steps[next].made)
		}
	}
	return false
}

// stepAside frees the Path of the move k ahead of its time, by way of a spare name.
func (r *run) stepAside(k int) {
	spare := "~" + strconv.Itoa(r.spares)
	r.spares++
	o := &r.steps[k].op
	r.ops = append(r.ops, api.Op{Kind: api.Rename, Path: o.Path, To: spare})
	o.Path = spare
	r.free(k)
}
