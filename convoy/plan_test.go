package convoy_test

import (
	"fmt"
	"math/rand"
	"slices"
	"strings"
	"testing"

	"convoy/api"
	"convoy/convoy"
)

func moded(e api.Entry, mode int) api.Entry {
	e.Mode = mode
	return e
}

// planned gives the plan from s to u, held against every word of P8.
func planned(t *testing.T, s, u []api.Entry, fold bool, store ...int) []api.Op {
	t.Helper()
	l, e, at := convoy.Plan(s, u, fold, store)
	if e != api.OK || at != 0 {
		t.Fatalf("Plan(%+v, %+v, %v, %v) = %d, %d", s, u, fold, store, e, at)
	}
	if _, e := convoy.Encode(l); e != api.OK || len(l) > 3*(len(s)+len(u)) {
		t.Fatalf("from %+v to %+v: %+v: %d operations, Encode %d", s, u, l, len(l), e)
	}
	got, need, e, at := convoy.Try(s, fold, l)
	if e != api.OK || !slices.Equal(got, u) {
		t.Fatalf("from %+v to %+v: Try of %+v: %+v, %d, %d", s, u, l, got, e, at)
	}
	if want := max(sizesOf(s), sizesOf(u)); need != want {
		t.Errorf("from %+v to %+v: %+v needs %d, could do with %d", s, u, l, need, want)
	}
	carriedOut(t, s, u, fold, l, need)
	kept := alike(s, u)
	for _, o := range l {
		if fault := planFault(s, u, kept, fold, o); fault != "" {
			t.Fatalf("from %+v to %+v: %+v: %+v: %s", s, u, l, o, fault)
		}
	}
	return l
}

// carriedOut does a plan in just the space that it needs, on a volume and on the model, and looks on the way for what both trees have.
func carriedOut(t *testing.T, s, u []api.Entry, fold bool, l []api.Op, need int) {
	t.Helper()
	v, m := mount(t, s, fold, need), newModel(s, fold, need)
	both := slices.DeleteFunc(slices.Clone(s), func(e api.Entry) bool { return !hasId(u, e.Id) })
	for i := range len(l) + 1 {
		now := v.Tree()
		for _, e := range both {
			if !hasId(now, e.Id) && !e.Dir {
				t.Fatalf("from %+v to %+v: %+v: ahead of operation %d no file has the Id %d", s, u, l, i, e.Id)
			}
		}
		if i == len(l) {
			break
		}
		if e, f := v.Do(l[i]), m.do(l[i]); e != api.OK || f != api.OK {
			t.Fatalf("from %+v to %+v: %+v: operation %d tells %d, of the model %d", s, u, l, i, e, f)
		}
	}
	if !slices.Equal(v.Tree(), u) || !slices.Equal(m.tree(), u) {
		t.Fatalf("from %+v to %+v: %+v comes to %+v", s, u, l, v.Tree())
	}
}

func hasId(l []api.Entry, id int) bool {
	return slices.ContainsFunc(l, func(e api.Entry) bool { return e.Id == id })
}

// planFault tells what a single operation of a plan does that it may not; kept is the paths that are alike.
func planFault(s, u []api.Entry, kept []string, fold bool, o api.Op) string {
	if o.Kind == api.Write && hasId(s, o.Id) {
		return "writes what is there"
	}
	for _, p := range []string{o.Path, o.To} {
		if p != "" && p[0] != '~' && !hasPath(s, p) && !hasPath(u, p) {
			return "is of a path that neither tree has"
		}
	}
	same := func(p string) string { return p }
	if fold {
		same = strings.ToLower
	}
	within := func(p, above string) bool { return strings.HasPrefix(same(p)+"/", same(above)+"/") }
	takes := o.Kind == api.Rename || o.Kind == api.Rmdir || o.Kind == api.Unlink
	for _, p := range kept {
		switch {
		case o.Kind != api.Copy && within(o.Path, p), within(o.To, p):
			return "has to do with " + p
		case takes && within(p, o.Path):
			return "takes away what is above " + p
		}
	}
	return ""
}

func hasPath(l []api.Entry, path string) bool {
	return slices.ContainsFunc(l, func(e api.Entry) bool { return e.Path == path })
}

// alike gives the paths that both trees have with equal entries there and everywhere below.
func alike(s, u []api.Entry) []string {
	var l []string
	for _, e := range s {
		in := func(l []api.Entry) []api.Entry {
			return slices.DeleteFunc(slices.Clone(l), func(f api.Entry) bool {
				return !strings.HasPrefix(f.Path+"/", e.Path+"/")
			})
		}
		if slices.Equal(in(s), in(u)) {
			l = append(l, e.Path)
		}
	}
	return l
}

func TestPlanDocument(t *testing.T) {
	for _, c := range []struct {
		s, u []api.Entry
		want []api.Op
	}{
		{
			[]api.Entry{file("a", 1), file("b", 2)}, []api.Entry{file("a", 2), file("b", 1)},
			[]api.Op{{Kind: api.Rename, Path: "a", To: "~0"}, {Kind: api.Rename, Path: "b", To: "a"}, {Kind: api.Rename, Path: "~0", To: "b"}},
		},
		{
			[]api.Entry{file("x", 1)}, []api.Entry{file("y", 1), file("z", 1)},
			[]api.Op{{Kind: api.Rename, Path: "x", To: "y"}, {Kind: api.Copy, Path: "y", To: "z"}},
		},
	} {
		if got := planned(t, c.s, c.u, false); !slices.Equal(got, c.want) {
			t.Errorf("from %+v to %+v: %+v, want %+v", c.s, c.u, got, c.want)
		}
	}
}

type planCase struct {
	name string
	s, u []api.Entry
	ops  int // as many as are needed
}

func planAll(t *testing.T, fold bool, cases []planCase) {
	t.Helper()
	for _, c := range cases {
		t.Run(c.name, func(t *testing.T) {
			if l := planned(t, c.s, c.u, fold, 7, 8, 9); len(l) != c.ops {
				t.Errorf("%+v: %d operations, want %d", l, len(l), c.ops)
			}
		})
	}
}

func TestPlan(t *testing.T) {
	type l = []api.Entry
	chain := l{dir("a"), dir("a/b"), dir("a/b/c"), dir("a/b/c/d"), dir("a/b/c/d/e"), file("a/b/c/d/e/f", 1)}
	planAll(t, false, []planCase{
		{"nothing", nil, nil, 0},
		{"all alike", chain, chain, 0},
		{"all made", nil, l{moded(dir("d"), 5), moded(file("d/f", 9), 511), dir("e")}, 3},
		{"all gone", l{moded(dir("d"), 5), file("d/f", 9), dir("e")}, nil, 3},
		{"a whole chain gone", chain, nil, 6},
		{"a file's Mode", l{file("a", 1)}, l{moded(file("a", 1), 4)}, 1},
		{"a directory's Mode, above what stays", l{dir("d"), file("d/f", 1)}, l{moded(dir("d"), 4), file("d/f", 1)}, 1},
		{"moved, with another Mode", l{file("a", 1)}, l{moded(file("b", 1), 4)}, 2},
		{"moved and copied, with other Modes", l{moded(file("a", 1), 3)}, l{moded(file("b", 1), 4), moded(file("c", 1), 5)}, 3},
		{"a copy of what stays", l{file("x", 1)}, l{file("x", 1), file("z", 1)}, 1},
		{"a copy of what stays, ahead of it", l{file("x", 1)}, l{moded(file("a", 1), 1), file("x", 1)}, 1},
		{"a copy of what has another Mode", l{file("x", 1)}, l{file("a", 1), moded(file("x", 1), 1)}, 2},
		{"two become one", l{file("a", 1), file("b", 1)}, l{file("c", 1)}, 2},
		{"two become one of them", l{file("a", 1), file("b", 1)}, l{file("b", 1)}, 1},
		{"two for one", l{file("a", 1), file("b", 1)}, l{file("c", 1), file("d", 1)}, 2},
		{"written over", l{file("a", 1)}, l{file("a", 9)}, 2},
		{"written twice", nil, l{file("a", 9), file("b", 9)}, 2},
		{"written over what is moved", l{file("a", 1)}, l{file("a", 9), file("b", 1)}, 2},
		{"copied over", l{file("a", 1), file("b", 2)}, l{file("a", 1), file("b", 1)}, 2},
		{"one moves up behind the other", l{file("a", 1), file("b", 2), file("c", 3)}, l{file("b", 1), file("c", 2), file("d", 3)}, 3},
		{"a ring of three", l{file("a", 1), file("b", 2), file("c", 3)}, l{file("a", 3), file("b", 1), file("c", 2)}, 4},
		{"two rings", l{file("a", 1), file("b", 2), file("c", 3), file("d", 4)}, l{file("a", 2), file("b", 1), file("c", 4), file("d", 3)}, 6},
		{"one that waits for a ring", l{file("a", 1), file("b", 2), file("c", 3), dir("d")}, l{file("a", 2), file("b", 1), dir("d"), file("d/c", 3), file("d/d", 2)}, 5},
		{"two that wait for a ring and are not in it", l{file("a", 2), file("b", 3), file("d", 1)}, l{file("a", 3), dir("d"), file("d/a", 2), file("d/d", 1)}, 5},
		{"a file becomes a directory", l{file("d", 1)}, l{dir("d")}, 2},
		{"a directory becomes a file", l{dir("d"), file("d/f", 1)}, l{file("d", 9)}, 3},
		{"a file into a directory in its place", l{file("d", 1)}, l{moded(dir("d"), 2), file("d/d", 1)}, 3},
		{"a file out of a directory into its place", l{dir("d"), file("d/d", 1)}, l{moded(file("d", 1), 3)}, 4},
		{"far down", l{file("a", 1)}, chain, 7},
		{"far up", chain, l{file("a", 1)}, 7},
		{"a file and a directory for each other", l{dir("a"), file("a/x", 1), file("b", 2)}, l{file("a", 2), dir("b"), file("b/x", 1)}, 5},
		{"a chain the other way round", l{dir("a"), dir("a/b"), dir("a/b/c"), file("a/b/c/f", 1)}, l{dir("c"), dir("c/b"), dir("c/b/a"), file("c/b/a/f", 1)}, 7},
		{"between directories that stay", l{dir("a"), file("a/f", 1), dir("b"), file("b/g", 2)}, l{dir("a"), file("a/g", 2), dir("b"), file("b/f", 1)}, 2},
		{"only the case", l{dir("D"), file("D/f", 1)}, l{dir("d"), file("d/f", 1)}, 3},
		{"beside another case", l{file("A", 1)}, l{file("A", 1), file("a", 1)}, 1},
		{"as deep as may be", chain, l{dir("a"), dir("a/b"), dir("a/b/c"), dir("a/b/c/d"), file("a/b/c/d/e", 1)}, 3},
	})
}

func TestPlanWhereItFolds(t *testing.T) {
	type l = []api.Entry
	planAll(t, true, []planCase{
		{"a file", l{file("A", 1)}, l{file("a", 1)}, 1},
		{"a file, and its Mode", l{file("A", 1)}, l{moded(file("a", 1), 1)}, 2},
		{"a directory", l{dir("D"), file("D/f", 1)}, l{dir("d"), file("d/f", 1)}, 1},
		{"a directory, and all below", l{dir("D"), dir("D/E"), file("D/E/F", 1)}, l{dir("d"), dir("d/e"), moded(file("d/e/f", 1), 1)}, 4},
		{"the other way", l{dir("d"), dir("d/E"), file("d/E/f", 1)}, l{dir("D"), dir("D/e"), file("D/e/F", 1)}, 3},
		{"below one that stays", l{dir("D"), file("D/f", 1), file("D/g", 2)}, l{dir("D"), file("D/F", 1), file("D/g", 2)}, 1},
		{"for each other", l{file("A", 1), file("b", 2)}, l{file("B", 1), file("a", 2)}, 3},
		{"written over", l{file("A", 1)}, l{file("a", 9)}, 2},
		{"moved into what is renamed", l{dir("D"), file("f", 1)}, l{dir("d"), file("d/f", 1)}, 2},
		{"made in what is renamed", l{dir("D"), file("f", 1)}, l{dir("d"), dir("d/e"), file("d/e/g", 9), file("f", 1)}, 3},
		{"copied within what is renamed", l{dir("D"), file("D/F", 1)}, l{dir("d"), file("d/a", 1), file("d/f", 1)}, 3},
		{"taken out of what is renamed", l{dir("D"), dir("D/e"), file("D/e/f", 1), file("D/g", 2)}, l{dir("d"), file("f", 1)}, 4},
		{"a file becomes a directory", l{file("D", 1)}, l{dir("d"), file("d/D", 1)}, 3},
		{"a directory becomes a file", l{dir("D"), file("D/d", 1)}, l{file("d", 1)}, 3},
	})
}

// What both trees have alike stands in the midst of what changes.
func TestPlanLeavesAlone(t *testing.T) {
	s := []api.Entry{dir("a"), dir("a/b"), file("a/b/x", 1), file("a/y", 2), dir("b"), dir("b/c"), file("b/p", 3), dir("b/q"), file("b/q/z", 1), file("c", 4), file("e", 5)}
	u := []api.Entry{dir("a"), dir("a/b"), file("a/b/x", 1), file("a/y", 2), moded(dir("b"), 7), dir("b/c"), file("b/c/x", 1), file("b/p", 3), file("b/q", 2), file("c", 5), dir("d"), file("d/p", 3), file("e", 4)}
	planned(t, s, u, false)
	planned(t, s, u, true)
	planned(t, u, s, false)
	if got := alike(s, u); !slices.Equal(got, []string{"a", "a/b", "a/b/x", "a/y", "b/p"}) {
		t.Errorf("alike: %v", got)
	}
}

func TestPlanErrors(t *testing.T) {
	type l = []api.Entry
	s := l{file("a", 1)}
	for _, c := range []struct {
		name  string
		s, u  l
		fold  bool
		store []int
		e     api.Errno
		at    int
	}{
		{"s is no tree", l{file("", 1)}, s, false, nil, api.ErrEntry, 0},
		{"u is no tree", s, l{file("a/b", 1)}, false, nil, api.ErrEntry, 1},
		{"both are no trees", l{file("b", 1), file("a", 1)}, l{file("", 1)}, false, nil, api.ErrEntry, 0},
		{"a spare name in s", l{file("~1", 1)}, nil, false, nil, api.ErrEntry, 0},
		{"a spare name in u", nil, l{file("~1", 1)}, false, []int{1}, api.ErrEntry, 1},
		{"two that are one by folding, in s", l{file("A", 1), file("a", 1)}, s, true, nil, api.ErrEntry, 0},
		{"two that are one by folding, in u", s, l{file("A", 1), file("a", 1)}, true, nil, api.ErrEntry, 1},
		{"two that are not", s, l{file("A", 1), file("a", 1)}, false, nil, api.OK, 0},
		{"too many in s", files(api.MaxEntries + 1), s, false, nil, api.ErrEntry, 0},
		{"too many in u", s, files(api.MaxEntries + 1), false, nil, api.ErrEntry, 1},
		{"entry ahead of size", s, l{sized("a", 1, 2), file("b", 0)}, false, nil, api.ErrEntry, 1},
		{"another Size", s, l{sized("b", 1, 2)}, false, []int{1}, api.ErrSize, 0},
		{"size ahead of store", s, l{file("a", 9), sized("b", 1, 0)}, false, nil, api.ErrSize, 0},
		{"another Size behind", l{file("a", 1), file("b", 2)}, l{dir("d"), file("d/a", 1), sized("e", 2, 3)}, false, nil, api.ErrSize, 0},
		{"the least that is not there", s, l{file("b", 7), file("c", 5), file("d", 6), file("e", 4)}, false, []int{4, 6}, api.ErrStore, 5},
		{"behind one that the store has", s, l{file("b", 4), file("c", 5)}, false, []int{4}, api.ErrStore, 5},
		{"the least, ahead", s, l{file("b", 5), file("c", 7)}, false, nil, api.ErrStore, 5},
		{"no store", nil, l{file("b", 9999)}, false, nil, api.ErrStore, 9999},
		{"numbers that are no Ids", s, l{dir("d"), file("d/b", 7)}, false, []int{0, -7, 10000, -1 << 63, 65536 + 7}, api.ErrStore, 7},
		{"in the store behind those", s, l{dir("d"), file("d/b", 7)}, false, []int{0, -7, 10000, 7}, api.OK, 0},
		{"in s, not in the store", s, l{file("b", 1)}, false, []int{2}, api.OK, 0},
		{"a Size that the store alone has", nil, l{sized("b", 1, 100)}, false, []int{1}, api.OK, 0},
	} {
		got, e, at := convoy.Plan(c.s, c.u, c.fold, c.store)
		if e != c.e || at != c.at || (len(got) > 0) != (e == api.OK) {
			t.Errorf("%s: Plan = %+v, %d, %d, want %d, %d", c.name, got, e, at, c.e, c.at)
		}
	}
}

// smallTrees is all trees of one shape: at each of two places at the top there is nothing, a file, or a directory with at most two things in it.
func smallTrees(places [2][]string) [][]api.Entry {
	all := [][]api.Entry{nil}
	for _, names := range places {
		options := [][]api.Entry{nil}
		for _, n := range names {
			options = append(options, []api.Entry{file(n, 1)}, []api.Entry{file(n, 2)})
			for _, low := range [][]api.Entry{nil, {file(n+"/"+n, 1)}, {moded(file(n+"/"+n, 2), 1)}, {dir(n + "/" + n)}} {
				in := slices.Concat([]api.Entry{dir(n)}, low)
				options = append(options, in, slices.Concat(in, []api.Entry{file(n+"/z", 2)}))
			}
		}
		var next [][]api.Entry
		for _, ahead := range all {
			for _, o := range options {
				next = append(next, slices.Concat(ahead, o))
			}
		}
		all = next
	}
	return all
}

func planEach(t *testing.T, fold bool, all [][]api.Entry) {
	for _, s := range all {
		for _, u := range all {
			planned(t, s, u, fold, 1, 2)
		}
	}
}

func TestPlanSmallTrees(t *testing.T) {
	planEach(t, false, smallTrees([2][]string{{"a"}, {"b"}}))
	planEach(t, false, smallTrees([2][]string{{"A"}, {"a"}}))
	// The second place is lower case alone, so that the entries stand in order.
	planEach(t, true, smallTrees([2][]string{{"A", "a"}, {"b"}}))
}

// growTree puts n entries into few directories, so that two such trees get in each other's way.
func growTree(r *rand.Rand, n int, fold bool) []api.Entry {
	var l []api.Entry
	for range 4 * n {
		if len(l) == n {
			break
		}
		e := api.Entry{Path: []string{"a", "b", "c", "d", "A", "B", "c.d", "a-"}[r.Intn(8)], Mode: r.Intn(2)}
		if len(l) > 0 && r.Intn(3) > 0 {
			if up := l[r.Intn(len(l))]; up.Dir {
				e.Path = up.Path + "/" + e.Path
			}
		}
		if e.Dir = r.Intn(3) == 0; !e.Dir {
			e.Id = 1 + r.Intn(20)
			e.Size = e.Id % 7
		}
		next := append(slices.Clone(l), e)
		slices.SortFunc(next, func(a, b api.Entry) int { return compareNames(a.Path, b.Path) })
		if f, _ := convoy.Check(next, fold); f == api.OK {
			l = next
		}
	}
	return l
}

// idsTo gives the Ids from 1 on.
func idsTo(most int) []int {
	var l []int
	for id := range most {
		l = append(l, id+1)
	}
	return l
}

func TestPlanRandomTrees(t *testing.T) {
	r := rand.New(rand.NewSource(13))
	for i := range 300 {
		fold := i%2 == 0
		n := 1 + r.Intn(api.MaxEntries)
		planned(t, growTree(r, n, fold), growTree(r, n, fold), fold, idsTo(20)...)
	}
}

// wandered is a tree that came of s by some operations: most of it is as it was.
func wandered(r *rand.Rand, s []api.Entry, fold bool) []api.Entry {
	m := newModel(s, fold, 1<<40)
	for range r.Intn(20) {
		m.do(likelyOp(r, m.tree()))
	}
	return slices.DeleteFunc(m.tree(), func(e api.Entry) bool { return e.Path[0] == '~' })
}

func TestPlanWanderedTrees(t *testing.T) {
	r := rand.New(rand.NewSource(14))
	left := 0
	for range 2000 {
		s := randomTree(r)
		e, _ := convoy.Check(s, true)
		fold := e == api.OK && r.Intn(3) > 0
		u := wandered(r, s, fold)
		if slices.ContainsFunc(u, func(e api.Entry) bool { return e.Id > 0 && e.Size != e.Id*10 }) {
			continue // the Size would not be that of s
		}
		planned(t, s, u, fold, 1, 2, 3, 4, 5, 6)
		if len(alike(s, u)) > 0 {
			left++
		}
	}
	if left < 500 {
		t.Errorf("%d pairs alone have something alike", left)
	}
}

// As great as trees may be, with all in each other's way.
func TestPlanFullTrees(t *testing.T) {
	r := rand.New(rand.NewSource(15))
	s := make([]api.Entry, api.MaxEntries)
	for i := range s {
		s[i] = api.Entry{Path: fmt.Sprintf("f%02d", i), Id: 1 + i, Size: api.MaxSize}
	}
	permuted := func(order []int) []api.Entry {
		u := slices.Clone(s)
		for i, from := range order {
			u[i].Id = s[from].Id
		}
		return u
	}
	for range 20 {
		planned(t, s, permuted(r.Perm(len(s))), false)
	}
	pairs := r.Perm(len(s))
	for i := range pairs {
		pairs[i] = i ^ 1
	}
	if l := planned(t, s, permuted(pairs), true); len(l) != 90 {
		t.Errorf("30 pairs: %d operations", len(l))
	}
	planned(t, s, nil, false)
	planned(t, nil, s, false, idsTo(60)...)
	planned(t, s, []api.Entry{sized("x", 60, api.MaxSize)}, false)
	same := permuted(make([]int, len(s)))
	planned(t, s, same, false)
	planned(t, same, s, false, idsTo(60)...)
}

func TestPlanIsTheSameAgain(t *testing.T) {
	r := rand.New(rand.NewSource(16))
	for range 50 {
		s, u := growTree(r, 40, false), growTree(r, 40, false)
		first, second := planned(t, s, u, false, idsTo(20)...), planned(t, s, u, false, idsTo(20)...)
		if !slices.Equal(first, second) {
			t.Errorf("from %+v to %+v: %+v, then %+v", s, u, first, second)
		}
	}
}
