package convoy_test

import (
	"slices"
	"testing"

	"convoy/api"
	"convoy/convoy"
)

// guarded is a list with spare room behind it, and a picture of both.
type guarded[T comparable] struct {
	list    []T
	picture []T
}

func guard[T comparable](l []T, filler T) guarded[T] {
	room := append(slices.Clone(l), filler, filler, filler)
	return guarded[T]{room[:len(l):len(room)], slices.Clone(room)}
}

func (g guarded[T]) check(t *testing.T, call string) {
	t.Helper()
	if !slices.Equal(g.list[:cap(g.list)], g.picture) {
		t.Errorf("%s wrote into what was handed in: %+v, was %+v", call, g.list[:cap(g.list)], g.picture)
	}
}

// overwrite writes into all that the caller of a call may write into.
func overwrite[T any](l []T, filler T) {
	l = l[:cap(l)]
	for i := range l {
		l[i] = filler
	}
}

func TestEntriesAreNotWritten(t *testing.T) {
	tree := []api.Entry{dir("A"), file("A/f", 1), dir("b"), file("b/f", 2)}
	for _, l := range [][]api.Entry{tree, nil, {file("b", 1), file("a", 1)}, {file("", 1)}, files(api.MaxEntries), files(api.MaxEntries + 1)} {
		s, u := guard(l, file("spare", 7)), guard(tree[:2], file("room", 8))
		convoy.Check(s.list, false)
		convoy.Check(s.list, true)
		convoy.Diff(s.list, u.list)
		convoy.Diff(u.list, s.list)
		convoy.Diff(s.list, s.list)
		s.check(t, "Check or Diff")
		u.check(t, "Diff")
	}
}

func TestOpsAreNotWritten(t *testing.T) {
	for _, l := range [][]api.Op{oneOfEach, nil, {{}}, slices.Repeat(oneOfEach, 100)} {
		g := guard(l, api.Op{Kind: api.Rmdir, Path: "spare"})
		convoy.Encode(g.list)
		convoy.Print(g.list)
		g.check(t, "Encode or Print")
	}
}

func TestChangesAreTheCallers(t *testing.T) {
	s, u := guard([]api.Entry{file("a", 1), file("b", 2)}, file("spare", 7)), guard([]api.Entry{file("b", 1), dir("c")}, file("room", 8))
	first, _ := convoy.Diff(s.list, u.list)
	second, _ := convoy.Diff(s.list, u.list)
	want := slices.Clone(first)
	overwrite(first, api.Change{Path: "x"})
	third, _ := convoy.Diff(s.list, u.list)
	if !slices.Equal(second, want) || !slices.Equal(third, want) {
		t.Errorf("Diff = %+v, then %+v, want %+v", second, third, want)
	}
	s.check(t, "the caller")
	u.check(t, "the caller")
}

func TestOpsAreTheCallers(t *testing.T) {
	for name, read := range map[string]func() []api.Op{
		"Decode": func() []api.Op { l, _, _ := convoy.Decode(oneOfEachBytes); return l },
		"Parse":  func() []api.Op { l, _, _ := convoy.Parse(oneOfEachText); return l },
	} {
		first, second := read(), read()
		overwrite(first, api.Op{Kind: -1})
		if !slices.Equal(second, oneOfEach) || !slices.Equal(read(), oneOfEach) {
			t.Errorf("%s gives the same memory twice", name)
		}
	}
}
