package convoy_test

import (
	"math/rand"
	"testing"

	"convoy/api"
	"convoy/convoy"
)

type checkCase struct {
	name string
	l    []api.Entry
	fold bool
	e    api.Errno
	at   int
}

func runChecks(t *testing.T, cases []checkCase) {
	t.Helper()
	for _, c := range cases {
		if e, at := convoy.Check(c.l, c.fold); e != c.e || at != c.at {
			t.Errorf("%s: Check = %d, %d, want %d, %d", c.name, e, at, c.e, c.at)
		}
	}
}

func TestCheckTrees(t *testing.T) {
	deep := []api.Entry{dir("a"), dir("a/b"), dir("a/b/c"), dir("a/b/c/d"), dir("a/b/c/d/e"), file("a/b/c/d/e/f", 1)}
	mixed := []api.Entry{dir("D"), file("D/f", 1), dir("d"), file("d/f", 2)}
	runChecks(t, []checkCase{
		{name: "nothing"},
		{name: "the document's", l: []api.Entry{dir("d"), file("d/f", 5)}},
		{name: "as deep as may be", l: deep},
		{name: "as many as may be", l: files(api.MaxEntries), fold: true},
		{name: "a.b behind a/c", l: []api.Entry{dir("a"), file("a/c", 1), file("a.b", 2)}},
		{name: "one Id in two files", l: []api.Entry{file("a", 1), file("b", 1)}},
		{name: "letters apart by case", l: mixed},
		{name: "fold, and no two alike", l: []api.Entry{file("A", 1), file("b", 2)}, fold: true},
		{name: "fold, one name in two places", l: []api.Entry{dir("D"), file("D/F", 1), file("f", 2)}, fold: true},
		{name: "the most of all numbers", l: []api.Entry{{Path: "a", Id: 9999, Size: 100, Mode: 511}}},
		{name: "the least of all numbers", l: []api.Entry{{Path: "a", Id: 1}}},
		{name: "a directory's mode", l: []api.Entry{{Path: "a", Dir: true, Mode: 511}}},
	})
}

func TestCheckMany(t *testing.T) {
	wrong := files(api.MaxEntries + 1)
	wrong[3].Path = ""
	runChecks(t, []checkCase{
		{"61", files(api.MaxEntries + 1), false, api.ErrMany, 0},
		{"61 and a wrong one", wrong, true, api.ErrMany, 0},
	})
}

func TestCheckName(t *testing.T) {
	deep := []api.Entry{dir("a"), dir("a/b"), dir("a/b/c"), dir("a/b/c/d"), dir("a/b/c/d/e"), dir("a/b/c/d/e/f"), file("a/b/c/d/e/f/g", 1)}
	runChecks(t, []checkCase{{"too deep", deep, false, api.ErrName, 6}})
	for _, p := range []string{"", ".", "..", "/", "/b", "b/", "b//c", "b/.", "b/..", "abcdefghi", "b c", "b\x00", "\xe9", "~1", "b/~1", "~"} {
		runChecks(t, []checkCase{{p, []api.Entry{file("a", 1), file(p, 1)}, false, api.ErrName, 1}})
	}
}

func TestCheckEntry(t *testing.T) {
	for _, e := range []api.Entry{
		{Path: "b"}, {Path: "b", Id: -1}, {Path: "b", Id: 10000}, {Path: "b", Id: 65537}, {Path: "b", Id: 1, Size: -1}, {Path: "b", Id: 1, Size: 101}, {Path: "b", Id: 1, Size: 256},
		{Path: "b", Id: 1, Mode: -1}, {Path: "b", Id: 1, Mode: 512}, {Path: "b", Dir: true, Mode: -1}, {Path: "b", Dir: true, Mode: 512},
		{Path: "b", Dir: true, Id: 1}, {Path: "b", Dir: true, Size: 1}, {Path: "b", Dir: true, Id: -1}, {Path: "b", Dir: true, Size: -1},
	} {
		runChecks(t, []checkCase{{"entry", []api.Entry{file("a", 2), e}, false, api.ErrEntry, 1}})
	}
}

func TestCheckOrder(t *testing.T) {
	runChecks(t, []checkCase{
		{"the document's", []api.Entry{file("a", 1), file("A", 2)}, false, api.ErrOrder, 1},
		{"twice", []api.Entry{file("a", 1), file("a", 1)}, false, api.ErrOrder, 1},
		{"twice, file and directory", []api.Entry{file("a", 1), dir("a")}, false, api.ErrOrder, 1},
		{"a directory behind what follows it", []api.Entry{file("a.b", 2), dir("a")}, false, api.ErrOrder, 1},
		{"the order of bytes", []api.Entry{dir("a"), file("a.b", 2), file("a/c", 1)}, false, api.ErrOrder, 2},
		{"the last of all", []api.Entry{file("b", 1), file("c", 1), file("a", 1)}, false, api.ErrOrder, 2},
		{"a parent behind what is below it", []api.Entry{file("d/f", 5), dir("d")}, false, api.ErrOrder, 1},
	})
}

func TestCheckParent(t *testing.T) {
	runChecks(t, []checkCase{
		{"the document's", []api.Entry{file("d/f", 5)}, false, api.ErrParent, 0},
		{"a file", []api.Entry{file("a", 1), file("a/b", 2)}, false, api.ErrParent, 1},
		{"by folding", []api.Entry{dir("A"), file("a/b", 2)}, true, api.ErrParent, 1},
		{"by folding, without fold", []api.Entry{dir("A"), file("a/b", 2)}, false, api.ErrParent, 1},
		{"a directory between", []api.Entry{dir("a"), file("a/b/c", 2)}, false, api.ErrParent, 1},
		{"of a directory", []api.Entry{dir("a"), dir("b/c")}, false, api.ErrParent, 1},
		{"a longer name", []api.Entry{dir("ab"), file("b/c", 1)}, false, api.ErrParent, 1},
	})
}

func TestCheckExist(t *testing.T) {
	same := []api.Entry{dir("D"), file("D/x", 1), file("D/y", 1), dir("d")}
	below := []api.Entry{dir("d"), file("d/X", 1), file("d/a", 1), file("d/x", 1)}
	runChecks(t, []checkCase{
		{"the document's", []api.Entry{file("A", 2), file("a", 1)}, true, api.ErrExist, 1},
		{"without fold", []api.Entry{file("A", 2), file("a", 1)}, false, api.OK, 0},
		{"not the one just ahead", same, true, api.ErrExist, 3},
		{"not the one just ahead, without fold", same, false, api.OK, 0},
		{"below", below, true, api.ErrExist, 3},
		{"below, without fold", below, false, api.OK, 0},
		{"the first and the last letter", []api.Entry{file("AZ", 2), file("az", 1)}, true, api.ErrExist, 1},
	})
}

func TestCheckSize(t *testing.T) {
	runChecks(t, []checkCase{
		{"just ahead", []api.Entry{file("a", 1), {Path: "b", Id: 1, Size: 2}}, false, api.ErrSize, 1},
		{"far ahead", []api.Entry{file("a", 1), file("b", 2), dir("c"), {Path: "c/d", Id: 1}}, true, api.ErrSize, 3},
		{"unlike Ids", []api.Entry{file("a", 1), {Path: "b", Id: 2, Size: 2}}, false, api.OK, 0},
	})
}

// The errors as P3 names them: an entry with several is told by the first, and the first entry by its own.
func TestCheckFirstNamed(t *testing.T) {
	runChecks(t, []checkCase{
		{"name ahead of entry", []api.Entry{{Path: "", Mode: -1}}, false, api.ErrName, 0},
		{"name ahead of order", []api.Entry{file("b", 1), file("~1", 1)}, false, api.ErrName, 1},
		{"entry ahead of order", []api.Entry{file("b", 1), {Path: "a"}}, false, api.ErrEntry, 1},
		{"entry ahead of parent", []api.Entry{{Path: "a/b"}}, false, api.ErrEntry, 0},
		{"order ahead of parent", []api.Entry{file("c", 1), file("a/b", 1)}, false, api.ErrOrder, 1},
		{"order ahead of exist", []api.Entry{file("a", 1), file("A", 1)}, true, api.ErrOrder, 1},
		{"order ahead of size", []api.Entry{file("b", 1), {Path: "a", Id: 1, Size: 2}}, false, api.ErrOrder, 1},
		{"parent ahead of exist", []api.Entry{dir("D"), file("D/f", 1), file("d/f", 1)}, true, api.ErrParent, 2},
		{"parent ahead of size", []api.Entry{file("a", 1), {Path: "b/c", Id: 1, Size: 2}}, false, api.ErrParent, 1},
		{"exist ahead of size", []api.Entry{file("A", 1), {Path: "a", Id: 1, Size: 2}}, true, api.ErrExist, 1},
		{"the first entry", []api.Entry{file("A", 1), {Path: "B", Id: 1, Size: 2}, file("", 1)}, true, api.ErrSize, 1},
	})
}

func TestCheckRandomTrees(t *testing.T) {
	r := rand.New(rand.NewSource(1))
	for range 2000 {
		l := randomTree(r)
		if e, at := convoy.Check(l, false); e != api.OK || at != 0 {
			t.Fatalf("Check(%+v) = %d, %d", l, e, at)
		}
		if len(l) < 2 {
			continue
		}
		i := r.Intn(len(l) - 1)
		l[i], l[i+1] = l[i+1], l[i]
		if e, _ := convoy.Check(l, false); e == api.OK {
			t.Fatalf("out of order, and OK: %+v", l)
		}
	}
}
