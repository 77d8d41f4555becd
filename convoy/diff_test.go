package convoy_test

import (
	"math/rand"
	"slices"
	"testing"

	"convoy/api"
	"convoy/convoy"
)

func TestDiffDocument(t *testing.T) {
	s := []api.Entry{file("a", 1), file("b", 2)}
	u := []api.Entry{file("b", 1), dir("c")}
	want := []api.Change{{Path: "a", Kind: api.Gone}, {Path: "b", Kind: api.Changed, From: "a"}, {Path: "c", Kind: api.Made}}
	if got, e := convoy.Diff(s, u); e != api.OK || !slices.Equal(got, want) {
		t.Errorf("Diff = %+v, %d, want %+v", got, e, want)
	}
}

// One path, p, in both trees; beside it s alone has q with the Id 9.
func TestDiffKinds(t *testing.T) {
	for _, c := range []struct {
		name     string
		was, now api.Entry
		kind     int
		from     string
	}{
		{"a file turned", file("p", 1), dir("p"), api.Turned, ""},
		{"a directory turned", dir("p"), file("p", 9), api.Turned, "q"},
		{"a directory turned, out of nothing", dir("p"), file("p", 3), api.Turned, ""},
		{"turned, with another Mode", api.Entry{Path: "p", Dir: true, Mode: 7}, file("p", 9), api.Turned, "q"},
		{"another Id", file("p", 1), file("p", 9), api.Changed, "q"},
		{"another Id, out of nothing", file("p", 1), file("p", 3), api.Changed, ""},
		{"another Size", file("p", 1), api.Entry{Path: "p", Id: 1, Size: 9}, api.Changed, "p"},
		{"another Id and Mode", file("p", 1), api.Entry{Path: "p", Id: 9, Size: 1, Mode: 1}, api.Changed, "q"},
		{"a file's Mode", file("p", 1), api.Entry{Path: "p", Id: 1, Size: 1, Mode: 1}, api.Moded, ""},
		{"a directory's Mode", dir("p"), api.Entry{Path: "p", Dir: true, Mode: 1}, api.Moded, ""},
	} {
		want := []api.Change{{Path: "p", Kind: c.kind, From: c.from}, {Path: "q", Kind: api.Gone}}
		got, e := convoy.Diff([]api.Entry{c.was, file("q", 9)}, []api.Entry{c.now})
		if e != api.OK || !slices.Equal(got, want) {
			t.Errorf("%s: Diff = %+v, %d, want %+v", c.name, got, e, want)
		}
	}
}

func TestDiffFromIsTheFirst(t *testing.T) {
	s := []api.Entry{dir("a"), file("a/z", 1), file("a.b", 1), file("b", 1)}
	u := []api.Entry{file("A", 1), dir("a"), file("a/z", 2), file("a.b", 1), file("b", 1), dir("c")}
	want := []api.Change{{Path: "A", Kind: api.Made, From: "a/z"}, {Path: "a/z", Kind: api.Changed}, {Path: "c", Kind: api.Made}}
	if got, e := convoy.Diff(s, u); e != api.OK || !slices.Equal(got, want) {
		t.Errorf("Diff = %+v, %d, want %+v", got, e, want)
	}
}

func TestDiffOfNothing(t *testing.T) {
	l := []api.Entry{dir("a"), file("a/b", 1)}
	if got, e := convoy.Diff(l, slices.Clone(l)); e != api.OK || len(got) != 0 {
		t.Errorf("of equal trees: %+v, %d", got, e)
	}
	if got, e := convoy.Diff(nil, nil); e != api.OK || len(got) != 0 {
		t.Errorf("of no entries: %+v, %d", got, e)
	}
	if got, e := convoy.Diff(nil, l); e != api.OK || !slices.Equal(got, []api.Change{{Path: "a", Kind: api.Made}, {Path: "a/b", Kind: api.Made}}) {
		t.Errorf("all made: %+v, %d", got, e)
	}
	if got, e := convoy.Diff(l, nil); e != api.OK || !slices.Equal(got, []api.Change{{Path: "a", Kind: api.Gone}, {Path: "a/b", Kind: api.Gone}}) {
		t.Errorf("all gone: %+v, %d", got, e)
	}
}

func TestDiffOfNoTrees(t *testing.T) {
	good := []api.Entry{file("a", 1)}
	for _, wrong := range [][]api.Entry{
		{file("", 1)}, {{Path: "a"}}, {file("b", 1), file("a", 1)}, {file("a/b", 1)}, {file("a", 1), {Path: "b", Id: 1, Size: 2}}, {file("~1", 1)}, files(api.MaxEntries + 1),
	} {
		for _, pair := range [][2][]api.Entry{{good, wrong}, {wrong, good}, {wrong, wrong}} {
			if got, e := convoy.Diff(pair[0], pair[1]); e != api.ErrEntry || len(got) != 0 {
				t.Errorf("Diff(%+v, %+v) = %+v, %d", pair[0], pair[1], got, e)
			}
		}
	}
	// Names apart by case alone are no error here: Diff checks without fold.
	if got, e := convoy.Diff([]api.Entry{file("A", 1), file("a", 1)}, nil); e != api.OK || len(got) != 2 {
		t.Errorf("A and a: %+v, %d", got, e)
	}
}

func TestDiffRandomTrees(t *testing.T) {
	r := rand.New(rand.NewSource(2))
	for range 3000 {
		s, u := randomTree(r), randomTree(r)
		got, e := convoy.Diff(s, u)
		if want := slowDiff(s, u); e != api.OK || !slices.Equal(got, want) {
			t.Fatalf("Diff(%+v, %+v) = %+v, %d, want %+v", s, u, got, e, want)
		}
	}
}

// slowDiff goes by the words of P4, path by path.
func slowDiff(s, t []api.Entry) []api.Change {
	was, now, all := map[string]api.Entry{}, map[string]api.Entry{}, []string{}
	for _, e := range s {
		was[e.Path] = e
		all = append(all, e.Path)
	}
	for _, e := range t {
		now[e.Path] = e
		if _, both := was[e.Path]; !both {
			all = append(all, e.Path)
		}
	}
	slices.SortFunc(all, compareNames)
	var out []api.Change
	for _, p := range all {
		a, inS := was[p]
		b, inT := now[p]
		c := api.Change{Path: p}
		switch {
		case inS && inT && a == b:
			continue
		case !inS:
			c.Kind = api.Made
		case !inT:
			c.Kind = api.Gone
		case a.Dir != b.Dir:
			c.Kind = api.Turned
		case a.Id != b.Id || a.Size != b.Size:
			c.Kind = api.Changed
		default:
			c.Kind = api.Moded
		}
		if inT && !b.Dir && c.Kind != api.Moded {
			if i := slices.IndexFunc(s, func(e api.Entry) bool { return e.Id == b.Id }); i >= 0 {
				c.From = s[i].Path
			}
		}
		out = append(out, c)
	}
	return out
}
