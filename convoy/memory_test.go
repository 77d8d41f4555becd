package convoy_test

import (
	"slices"
	"strings"
	"testing"
	"unsafe"

	"convoy/api"
	"convoy/convoy"
)

// guarded is a list with spare room behind it, and a picture of both.
type guarded[T comparable] struct {
	list    []T
	picture []T
}

func guard[T comparable](l []T, filler T) guarded[T] {
	room := append(slices.Clone(l), filler, filler, filler)
	return guarded[T]{room[:len(l):len(room)], slices.Clone(room)}
}

func (g guarded[T]) check(t *testing.T, call string) {
	t.Helper()
	if !slices.Equal(g.list[:cap(g.list)], g.picture) {
		t.Errorf("%s wrote into what was handed in: %+v, was %+v", call, g.list[:cap(g.list)], g.picture)
	}
}

// overwrite writes into all that the caller of a call may write into.
func overwrite[T any](l []T, filler T) {
	l = l[:cap(l)]
	for i := range l {
		l[i] = filler
	}
}

func TestEntriesAreNotWritten(t *testing.T) {
	tree := []api.Entry{dir("A"), file("A/f", 1), dir("b"), file("b/f", 2)}
	for _, l := range [][]api.Entry{tree, nil, {file("b", 1), file("a", 1)}, {file("", 1)}, files(api.MaxEntries), files(api.MaxEntries + 1)} {
		s, u := guard(l, file("spare", 7)), guard(tree[:2], file("room", 8))
		convoy.Check(s.list, false)
		convoy.Check(s.list, true)
		convoy.Diff(s.list, u.list)
		convoy.Diff(u.list, s.list)
		convoy.Diff(s.list, s.list)
		s.check(t, "Check or Diff")
		u.check(t, "Diff")
	}
}

func TestOpsAreNotWritten(t *testing.T) {
	for _, l := range [][]api.Op{oneOfEach, nil, {{}}, slices.Repeat(oneOfEach, 100)} {
		g := guard(l, api.Op{Kind: api.Rmdir, Path: "spare"})
		convoy.Encode(g.list)
		convoy.Print(g.list)
		g.check(t, "Encode or Print")
	}
}

func TestChangesAreTheCallers(t *testing.T) {
	s, u := guard([]api.Entry{file("a", 1), file("b", 2)}, file("spare", 7)), guard([]api.Entry{file("b", 1), dir("c")}, file("room", 8))
	first, _ := convoy.Diff(s.list, u.list)
	second, _ := convoy.Diff(s.list, u.list)
	want := slices.Clone(first)
	overwrite(first, api.Change{Path: "x"})
	third, _ := convoy.Diff(s.list, u.list)
	if !slices.Equal(second, want) || !slices.Equal(third, want) {
		t.Errorf("Diff = %+v, then %+v, want %+v", second, third, want)
	}
	s.check(t, "the caller")
	u.check(t, "the caller")
}

func TestOpsAreTheCallers(t *testing.T) {
	for name, read := range map[string]func() []api.Op{
		"Decode": func() []api.Op { l, _, _ := convoy.Decode(oneOfEachBytes); return l },
		"Parse":  func() []api.Op { l, _, _ := convoy.Parse(oneOfEachText); return l },
	} {
		first, second := read(), read()
		overwrite(first, api.Op{Kind: -1})
		if !slices.Equal(second, oneOfEach) || !slices.Equal(read(), oneOfEach) {
			t.Errorf("%s gives the same memory twice", name)
		}
	}
}

// changesOfAll has every kind of operation, each of which goes on changedTree.
var (
	changedTree  = []api.Entry{file("a", 1), dir("d"), dir("d/e"), file("d/f", 2)}
	changesOfAll = []api.Op{
		{Kind: api.Chmod, Path: "a", Mode: 7},
		{Kind: api.Copy, Path: "a", To: "~1"},
		{Kind: api.Rename, Path: "d", To: "c"},
		{Kind: api.Mkdir, Path: "b"},
		{Kind: api.Write, Path: "b/x", Id: 3, Size: 1},
		{Kind: api.Rmdir, Path: "c/e"},
		{Kind: api.Unlink, Path: "c/f"},
	}
)

func TestTryWritesAndKeepsNothing(t *testing.T) {
	for _, ops := range [][]api.Op{changesOfAll, nil, {{}}, {{Kind: api.Rmdir, Path: "d"}}} {
		s, l := guard(changedTree, file("spare", 7)), guard(ops, api.Op{Kind: api.Rmdir, Path: "spare"})
		first, _, _, _ := convoy.Try(s.list, false, l.list)
		want := slices.Clone(first)
		second, _, _, _ := convoy.Try(s.list, false, l.list)
		overwrite(first, file("x", 9))
		s.check(t, "Try or its caller")
		l.check(t, "Try")
		if third, _, _, _ := convoy.Try(s.list, false, l.list); !slices.Equal(second, want) || !slices.Equal(third, want) {
			t.Errorf("Try = %+v, then %+v, want %+v", second, third, want)
		}
	}
}

func TestPlanWritesAndKeepsNothing(t *testing.T) {
	two := []api.Entry{file("a", 1), dir("b"), file("b/x", 2), file("c", 3)}
	for _, c := range [][2][]api.Entry{
		{two, {file("a", 2), file("b", 1), dir("c"), file("c/x", 1), file("c/y", 4)}},
		{two, two}, {nil, two}, {two, nil}, {two, {file("", 1)}}, {two, {sized("a", 1, 2)}}, {two, {file("a", 9)}},
	} {
		s, u, store := guard(c[0], file("spare", 7)), guard(c[1], file("room", 8)), guard([]int{4, 3, -1, 2, 1}, 9)
		first, _, _ := convoy.Plan(s.list, u.list, false, store.list)
		want := slices.Clone(first)
		second, _, _ := convoy.Plan(s.list, u.list, false, store.list)
		overwrite(first, api.Op{Kind: -1})
		s.check(t, "Plan or its caller")
		u.check(t, "Plan or its caller")
		store.check(t, "Plan")
		if third, _, _ := convoy.Plan(s.list, u.list, false, store.list); !slices.Equal(second, want) || !slices.Equal(third, want) {
			t.Errorf("Plan = %+v, then %+v, want %+v", second, third, want)
		}
	}
}

func TestVolumesKeepNothing(t *testing.T) {
	l := guard(changedTree, file("spare", 7))
	v := mount(t, l.list, false, 100)
	for _, o := range changesOfAll {
		if e := v.Do(o); e != api.OK {
			t.Fatalf("Do(%+v) = %d", o, e)
		}
	}
	v.Tree()
	l.check(t, "the volume")
	w := mount(t, l.list, false, 100)
	overwrite(l.list, file("x", 9))
	if got := w.Tree(); !slices.Equal(got, changedTree) {
		t.Errorf("a caller wrote into the volume: %+v", got)
	}
}

func TestWorkWritesAndKeepsNothing(t *testing.T) {
	for _, ops := range [][]api.Op{changesOfAll, nil, {{}}, {{Kind: api.Rmdir, Path: "d"}}, {{Kind: api.Write, Path: "x", Id: 9, Size: 100}}} {
		j := job{name: "guarded", s: changedTree, space: 50, l: ops}
		for _, budget := range []int{0, 3, 1000} {
			s, l := guard(changedTree, file("spare", 7)), guard(ops, api.Op{Kind: api.Rmdir, Path: "spare"})
			v, w := j.take(t, j.start()), j.take(t, j.start())
			before := v.Tree()
			e, n := v.Work(s.list, l.list, budget)
			now := leave(v)
			s.check(t, "Work")
			l.check(t, "Work")
			if !slices.Equal(before, changedTree) || !leave(w).equal(j.start()) {
				t.Errorf("Work of %+v wrote into what was given before, or into another volume", ops)
			}
			overwrite(s.list, file("x", 9))
			overwrite(l.list, api.Op{Kind: -1})
			overwrite(before, file("y", 9))
			if !leave(v).equal(now) {
				t.Errorf("a caller wrote into the volume: %+v, was %+v", leave(v), now)
			}
			if f, m := w.Work(changedTree, ops, budget); f != e || m != n || !leave(w).equal(now) {
				t.Errorf("the same once more: %d, %d, %+v, want %d, %d, %+v", f, m, leave(w), e, n, now)
			}
		}
	}
}

// What Tree gave stays as it is whatever is done then, and the volume stays whatever is written into it.
func TestTreeIsTheCallers(t *testing.T) {
	v := mount(t, changedTree, false, 100)
	for _, o := range changesOfAll {
		before := v.Tree()
		picture := slices.Clone(before)
		v.Do(o)
		if !slices.Equal(before, picture) {
			t.Errorf("Do(%+v) wrote into a tree that was given: %+v, was %+v", o, before, picture)
		}
		after := v.Tree()
		want := slices.Clone(after)
		overwrite(after, file("x", 9))
		overwrite(before, file("y", 9))
		if got := v.Tree(); !slices.Equal(got, want) {
			t.Errorf("a caller wrote into the volume: %+v, want %+v", got, want)
		}
	}
}

func TestVolumesShareNothing(t *testing.T) {
	first, second := mount(t, changedTree, false, 100), mount(t, changedTree, false, 100)
	for _, o := range changesOfAll {
		first.Do(o)
	}
	if got := second.Tree(); !slices.Equal(got, changedTree) {
		t.Errorf("another volume has changed: %+v", got)
	}
	for _, o := range changesOfAll {
		second.Do(o)
	}
	if a, b := first.Tree(), second.Tree(); !slices.Equal(a, b) {
		t.Errorf("the same was done: %+v, %+v", a, b)
	}
}

// lender lends texts out of memory that is written over in the end.
type lender struct{ lent [][]byte }

func (l *lender) text(s string) string {
	if s == "" {
		return s
	}
	b := []byte(s)
	l.lent = append(l.lent, b)
	return unsafe.String(&b[0], len(b))
}

func (l *lender) tree(of []api.Entry) []api.Entry {
	own := slices.Clone(of)
	for i := range own {
		own[i].Path = l.text(own[i].Path)
	}
	return own
}

func (l *lender) script(of []api.Op) []api.Op {
	own := slices.Clone(of)
	for i := range own {
		own[i].Path, own[i].To = l.text(own[i].Path), l.text(own[i].To)
	}
	return own
}

func (l *lender) takeBack() {
	for _, b := range l.lent {
		copy(b, strings.Repeat("?", len(b)))
	}
}

var (
	lentTree   = []api.Entry{file("a", 1), dir("d"), file("d/f", 2), file("e", 2)}
	lentScript = []api.Op{
		{Kind: api.Mkdir, Path: "b"}, {Kind: api.Mkdir, Path: "B/c"}, {Kind: api.Write, Path: "w", Id: 3}, {Kind: api.Copy, Path: "A", To: "x"},
		{Kind: api.Rename, Path: "A", To: "y"}, {Kind: api.Rename, Path: "d", To: "D"}, {Kind: api.Rename, Path: "d/F", To: "d/g"}, {Kind: api.Chmod, Path: "D", Mode: 1},
	}
	lentResult = []api.Entry{moded(dir("D"), 1), file("D/g", 2), dir("b"), dir("b/c"), file("e", 2), sized("w", 3, 0), file("x", 1), file("y", 1)}
)

// Texts lie in memory, too, which a volume may not hold on to.
func TestVolumesKeepNoText(t *testing.T) {
	var lend lender
	v, _ := convoy.Mount(lend.tree(lentTree), true, 100, lend.text("journal"))
	for _, o := range lend.script(lentScript) {
		if e := v.Do(o); e != api.OK {
			t.Fatalf("Do(%+v) = %d", o, e)
		}
	}
	lend.takeBack()
	if got := v.Tree(); !slices.Equal(got, lentResult) || v.Journal() != "journal" {
		t.Errorf("Tree = %+v, Journal = %q", got, v.Journal())
	}
}

func TestWorkKeepsNoText(t *testing.T) {
	j := job{name: "lent", s: lentTree, fold: true, space: 100, l: lentScript}
	at := j.start()
	for spent, want := range j.stops(t) {
		var lend lender
		v, _ := convoy.Mount(lend.tree(at.tree), true, 100, lend.text(at.journal))
		v.Work(lend.tree(lentTree), lend.script(lentScript), min(spent, 1))
		lend.takeBack()
		if at = leave(v); !at.equal(want) {
			t.Fatalf("%d spent: %+v, want %+v", spent, at, want)
		}
	}
	if !slices.Equal(at.tree, lentResult) {
		t.Errorf("Tree = %+v", at.tree)
	}
}
