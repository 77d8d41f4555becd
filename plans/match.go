package plans

import (
	"slices"

	"convoy/api"
	"convoy/paths"
	"convoy/trees"
)

// none is the number of no entry, and of no step.
const none = -1

// match says which entries of the tree s become which of the tree t. Files do so wherever they are, directories only where they stand: to move one would move what has to stay below it, or give what is below it paths that neither tree has.
type match struct {
	s, t []api.Entry
	fold bool
	to   []int // of each entry of s, which of t it becomes
	from []int // of each entry of t, which of s becomes it
}

func newMatch(s, t []api.Entry, fold bool) match {
	m := match{s: s, t: t, fold: fold, to: numbers(len(s)), from: numbers(len(t))}
	m.joinInPlace()
	m.joinElsewhere()
	return m
}

// numbers gives n numbers, each none so far.
func numbers(n int) []int { return slices.Repeat([]int{none}, n) }

// joinInPlace goes ahead of all others, so that nothing is moved that can stay.
func (m *match) joinInPlace() {
	for j, e := range m.t {
		i := trees.Find(m.s, e.Path, m.fold)
		if i != none && m.s[i].Dir == e.Dir && m.s[i].Id == e.Id {
			m.join(i, j)
		}
	}
}

func (m *match) joinElsewhere() {
wanted:
	for j, e := range m.t {
		if e.Dir || m.from[j] != none {
			continue
		}
		for i, was := range m.s {
			if was.Id == e.Id && m.to[i] == none {
				m.join(i, j)
				continue wanted
			}
		}
	}
}

func (m *match) join(i, j int) { m.to[i], m.from[j] = j, i }

// moves tells whether number i of s becomes one of t at another place.
func (m *match) moves(i int) bool {
	j := m.to[i]
	return j != none && !paths.Same(m.s[i].Path, m.t[j].Path, m.fold)
}

// holder gives the first entry of t that one of s with this Id becomes. There is one if both trees have the Id.
func (m *match) holder(id int) int {
	for j, e := range m.t {
		if e.Id == id && m.from[j] != none {
			return j
		}
	}
	return none
}
