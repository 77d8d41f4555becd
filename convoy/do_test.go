package convoy_test

import (
	"math/rand"
	"slices"
	"testing"

	"convoy/api"
	"convoy/convoy"
)

func mount(t *testing.T, l []api.Entry, fold bool, space int) *convoy.Volume {
	t.Helper()
	v, e := convoy.Mount(l, fold, space, "journal")
	if v == nil || e != api.OK {
		t.Fatalf("Mount(%+v, %v, %d) = %d", l, fold, space, e)
	}
	return v
}

type doCase struct {
	name string
	l    []api.Entry
	o    api.Op
	e    api.Errno
	want []api.Entry // with an error, l
}

// doAll runs each case on a volume that holds its entries and has 10 of space left.
func doAll(t *testing.T, fold bool, cases []doCase) {
	t.Helper()
	for _, c := range cases {
		v := mount(t, c.l, fold, sizesOf(c.l)+10)
		want := c.want
		if c.e != api.OK {
			want = c.l
		}
		if e := v.Do(c.o); e != c.e || !slices.Equal(v.Tree(), want) || v.Journal() != "journal" {
			t.Errorf("%s: fold %v: Do(%+v) = %d, %+v, want %d, %+v", c.name, fold, c.o, e, v.Tree(), c.e, want)
		}
	}
}

func sizesOf(l []api.Entry) int {
	sum := 0
	for _, e := range l {
		sum += e.Size
	}
	return sum
}

// full is as many entries as a volume may hold: a directory d, a file in it, and files of Size 1.
func full() []api.Entry {
	return append([]api.Entry{dir("d"), file("d/f", 1)}, files(118)...)
}

func sized(path string, id, size int) api.Entry { return api.Entry{Path: path, Id: id, Size: size} }

func TestDoMkdir(t *testing.T) {
	l := []api.Entry{file("a", 1), dir("d"), file("d/f", 2)}
	doAll(t, false, []doCase{
		{"at the top", l, api.Op{Kind: api.Mkdir, Path: "b", Mode: 511}, api.OK, []api.Entry{l[0], {Path: "b", Dir: true, Mode: 511}, l[1], l[2]}},
		{"below", l, api.Op{Kind: api.Mkdir, Path: "d/e"}, api.OK, []api.Entry{l[0], l[1], dir("d/e"), l[2]}},
		{"another case", l, api.Op{Kind: api.Mkdir, Path: "D"}, api.OK, []api.Entry{dir("D"), l[0], l[1], l[2]}},
		{"behind what is below d", l, api.Op{Kind: api.Mkdir, Path: "d-"}, api.OK, []api.Entry{l[0], l[1], l[2], dir("d-")}},
		{"on nothing", nil, api.Op{Kind: api.Mkdir, Path: "d"}, api.OK, []api.Entry{dir("d")}},
		{"a directory is there", l, api.Op{Kind: api.Mkdir, Path: "d"}, api.ErrExist, nil},
		{"a file is there", l, api.Op{Kind: api.Mkdir, Path: "a"}, api.ErrExist, nil},
		{"no parent", l, api.Op{Kind: api.Mkdir, Path: "x/y"}, api.ErrParent, nil},
		{"no parent, but its parent", l, api.Op{Kind: api.Mkdir, Path: "d/x/y"}, api.ErrParent, nil},
		{"a file for a parent", l, api.Op{Kind: api.Mkdir, Path: "a/y"}, api.ErrParent, nil},
		{"a parent in another case", l, api.Op{Kind: api.Mkdir, Path: "D/y"}, api.ErrParent, nil},
		{"too many", full(), api.Op{Kind: api.Mkdir, Path: "x"}, api.ErrMany, nil},
		{"exist ahead of many", full(), api.Op{Kind: api.Mkdir, Path: "d"}, api.ErrExist, nil},
		{"parent ahead of many", full(), api.Op{Kind: api.Mkdir, Path: "x/y"}, api.ErrParent, nil},
		{"the last one", full()[:119], api.Op{Kind: api.Mkdir, Path: "x"}, api.OK, append(full()[:119], dir("x"))},
	})
}

func TestDoRmdirAndUnlink(t *testing.T) {
	l := []api.Entry{file("a", 1), dir("d"), dir("d/e"), file("d-", 1), dir("d.x"), file("~1", 2)}
	doAll(t, false, []doCase{
		{"empty", l, api.Op{Kind: api.Rmdir, Path: "d/e"}, api.OK, []api.Entry{l[0], l[1], l[3], l[4], l[5]}},
		{"not empty", l, api.Op{Kind: api.Rmdir, Path: "d"}, api.ErrBusy, nil},
		{"empty, with like names behind", l[3:], api.Op{Kind: api.Rmdir, Path: "d.x"}, api.OK, []api.Entry{l[3], l[5]}},
		{"empty, and the last", l[4:5], api.Op{Kind: api.Rmdir, Path: "d.x"}, api.OK, nil},
		{"a file", l, api.Op{Kind: api.Rmdir, Path: "a"}, api.ErrKind, nil},
		{"a spare file", l, api.Op{Kind: api.Rmdir, Path: "~1"}, api.ErrKind, nil},
		{"no spare file", l, api.Op{Kind: api.Rmdir, Path: "~2"}, api.ErrNone, nil},
		{"nothing", l, api.Op{Kind: api.Rmdir, Path: "b"}, api.ErrNone, nil},
		{"another case", l, api.Op{Kind: api.Rmdir, Path: "D.x"}, api.ErrNone, nil},
		{"unlink", l, api.Op{Kind: api.Unlink, Path: "a"}, api.OK, l[1:]},
		{"unlink a spare file", l, api.Op{Kind: api.Unlink, Path: "~1"}, api.OK, l[:5]},
		{"unlink a directory", l, api.Op{Kind: api.Unlink, Path: "d/e"}, api.ErrKind, nil},
		{"unlink nothing", l, api.Op{Kind: api.Unlink, Path: "d/x"}, api.ErrNone, nil},
		{"unlink below a file", l, api.Op{Kind: api.Unlink, Path: "a/x"}, api.ErrNone, nil},
		{"unlink another spare name", l, api.Op{Kind: api.Unlink, Path: "~01"}, api.ErrNone, nil},
	})
}

func TestDoWrite(t *testing.T) {
	l := []api.Entry{file("a", 1), dir("d")}
	doAll(t, false, []doCase{
		{"at the top", l, api.Op{Kind: api.Write, Path: "b", Id: 9999, Size: 10, Mode: 511}, api.OK, []api.Entry{l[0], {Path: "b", Id: 9999, Size: 10, Mode: 511}, l[1]}},
		{"below", l, api.Op{Kind: api.Write, Path: "d/b", Id: 1, Size: 1}, api.OK, []api.Entry{l[0], l[1], file("d/b", 1)}},
		{"a spare name", l, api.Op{Kind: api.Write, Path: "~1", Id: 2}, api.OK, []api.Entry{l[0], l[1], sized("~1", 2, 0)}},
		{"no space", l, api.Op{Kind: api.Write, Path: "b", Id: 2, Size: 11}, api.ErrFull, nil},
		{"another Size", l, api.Op{Kind: api.Write, Path: "b", Id: 1, Size: 2}, api.ErrSize, nil},
		{"size ahead of full", l, api.Op{Kind: api.Write, Path: "b", Id: 1, Size: 100}, api.ErrSize, nil},
		{"exist ahead of size", l, api.Op{Kind: api.Write, Path: "d", Id: 1, Size: 100}, api.ErrExist, nil},
		{"parent ahead of size", l, api.Op{Kind: api.Write, Path: "x/y", Id: 1, Size: 100}, api.ErrParent, nil},
		{"a file for a parent", l, api.Op{Kind: api.Write, Path: "a/y", Id: 2}, api.ErrParent, nil},
		{"exist ahead of many", full(), api.Op{Kind: api.Write, Path: "d", Id: 1, Size: 100}, api.ErrExist, nil},
		{"parent ahead of many", full(), api.Op{Kind: api.Write, Path: "x/y", Id: 1, Size: 100}, api.ErrParent, nil},
		{"many ahead of size", full(), api.Op{Kind: api.Write, Path: "x", Id: 1, Size: 100}, api.ErrMany, nil},
		{"many, a spare name", full(), api.Op{Kind: api.Write, Path: "~1", Id: 1, Size: 1}, api.ErrMany, nil},
	})
}

func TestDoCopy(t *testing.T) {
	l := []api.Entry{{Path: "a", Id: 1, Size: 1, Mode: 7}, sized("b", 2, 11), dir("d"), file("~1", 3)}
	doAll(t, false, []doCase{
		{"at the top", l, api.Op{Kind: api.Copy, Path: "a", To: "c", Mode: 3}, api.OK, []api.Entry{l[0], l[1], {Path: "c", Id: 1, Size: 1, Mode: 3}, l[2], l[3]}},
		{"below", l, api.Op{Kind: api.Copy, Path: "a", To: "d/c"}, api.OK, []api.Entry{l[0], l[1], l[2], file("d/c", 1), l[3]}},
		{"from a spare name to another", l, api.Op{Kind: api.Copy, Path: "~1", To: "~0"}, api.OK, []api.Entry{l[0], l[1], l[2], file("~0", 3), l[3]}},
		{"nothing", l, api.Op{Kind: api.Copy, Path: "x", To: "y"}, api.ErrNone, nil},
		{"a directory", l, api.Op{Kind: api.Copy, Path: "d", To: "y"}, api.ErrKind, nil},
		{"to itself", l, api.Op{Kind: api.Copy, Path: "a", To: "a"}, api.ErrExist, nil},
		{"to a directory", l, api.Op{Kind: api.Copy, Path: "a", To: "d"}, api.ErrExist, nil},
		{"no parent", l, api.Op{Kind: api.Copy, Path: "a", To: "x/y"}, api.ErrParent, nil},
		{"below itself", l, api.Op{Kind: api.Copy, Path: "a", To: "a/y"}, api.ErrParent, nil},
		{"no space", l, api.Op{Kind: api.Copy, Path: "b", To: "c"}, api.ErrFull, nil},
		{"none ahead of exist", l, api.Op{Kind: api.Copy, Path: "x", To: "a"}, api.ErrNone, nil},
		{"kind ahead of exist", l, api.Op{Kind: api.Copy, Path: "d", To: "a"}, api.ErrKind, nil},
		{"kind ahead of parent", l, api.Op{Kind: api.Copy, Path: "d", To: "d/x/y"}, api.ErrKind, nil},
		{"exist ahead of full", l, api.Op{Kind: api.Copy, Path: "b", To: "a"}, api.ErrExist, nil},
		{"parent ahead of full", l, api.Op{Kind: api.Copy, Path: "b", To: "x/y"}, api.ErrParent, nil},
		{"too many", full(), api.Op{Kind: api.Copy, Path: "d/f", To: "x"}, api.ErrMany, nil},
		{"none ahead of many", full(), api.Op{Kind: api.Copy, Path: "x", To: "y"}, api.ErrNone, nil},
		{"kind ahead of many", full(), api.Op{Kind: api.Copy, Path: "d", To: "y"}, api.ErrKind, nil},
		{"exist ahead of many", full(), api.Op{Kind: api.Copy, Path: "d/f", To: "d"}, api.ErrExist, nil},
		{"parent ahead of many", full(), api.Op{Kind: api.Copy, Path: "d/f", To: "x/y"}, api.ErrParent, nil},
	})
	great := full()
	great[1] = sized("d/f", 2, 20)
	doAll(t, false, []doCase{{"many ahead of full", great, api.Op{Kind: api.Copy, Path: "d/f", To: "x"}, api.ErrMany, nil}})
}

func TestDoRename(t *testing.T) {
	l := []api.Entry{{Path: "a", Id: 1, Size: 1, Mode: 7}, {Path: "d", Dir: true, Mode: 5}, dir("d/e"), file("d/e/f", 2), file("d-", 4), dir("x"), file("~1", 3)}
	doAll(t, false, []doCase{
		{"a file", l, api.Op{Kind: api.Rename, Path: "a", To: "x/a"}, api.OK, []api.Entry{l[1], l[2], l[3], l[4], l[5], {Path: "x/a", Id: 1, Size: 1, Mode: 7}, l[6]}},
		{"a directory, not what has a like name", l, api.Op{Kind: api.Rename, Path: "d", To: "y"}, api.OK, []api.Entry{l[0], l[4], l[5], {Path: "y", Dir: true, Mode: 5}, dir("y/e"), file("y/e/f", 2), l[6]}},
		{"up", l, api.Op{Kind: api.Rename, Path: "d/e", To: "c"}, api.OK, []api.Entry{l[0], dir("c"), file("c/f", 2), l[1], l[4], l[5], l[6]}},
		{"to a spare name", l, api.Op{Kind: api.Rename, Path: "d/e/f", To: "~0"}, api.OK, []api.Entry{l[0], l[1], l[2], l[4], l[5], file("~0", 2), l[6]}},
		{"from a spare name", l, api.Op{Kind: api.Rename, Path: "~1", To: "d/f"}, api.OK, []api.Entry{l[0], l[1], l[2], l[3], file("d/f", 3), l[4], l[5]}},
		{"from a spare name to another", l, api.Op{Kind: api.Rename, Path: "~1", To: "~01"}, api.OK, []api.Entry{l[0], l[1], l[2], l[3], l[4], l[5], file("~01", 3)}},
		{"to itself", l, api.Op{Kind: api.Rename, Path: "d", To: "d"}, api.OK, l},
		{"to another case", l, api.Op{Kind: api.Rename, Path: "d/e", To: "d/E"}, api.OK, []api.Entry{l[0], l[1], dir("d/E"), file("d/E/f", 2), l[4], l[5], l[6]}},
		{"to a longer name", l, api.Op{Kind: api.Rename, Path: "d", To: "de"}, api.OK, []api.Entry{l[0], l[4], {Path: "de", Dir: true, Mode: 5}, dir("de/e"), file("de/e/f", 2), l[5], l[6]}},
		{"nothing", l, api.Op{Kind: api.Rename, Path: "y", To: "z"}, api.ErrNone, nil},
		{"inside", l, api.Op{Kind: api.Rename, Path: "d", To: "d/y"}, api.ErrInside, nil},
		{"a file inside", l, api.Op{Kind: api.Rename, Path: "a", To: "a/y"}, api.ErrInside, nil},
		{"a file is there", l, api.Op{Kind: api.Rename, Path: "d", To: "a"}, api.ErrExist, nil},
		{"a directory is there", l, api.Op{Kind: api.Rename, Path: "d", To: "x"}, api.ErrExist, nil},
		{"its parent", l, api.Op{Kind: api.Rename, Path: "d/e", To: "d"}, api.ErrExist, nil},
		{"no parent", l, api.Op{Kind: api.Rename, Path: "a", To: "y/z"}, api.ErrParent, nil},
		{"a file for a parent", l, api.Op{Kind: api.Rename, Path: "d", To: "a/z"}, api.ErrParent, nil},
		{"a parent in another case", l, api.Op{Kind: api.Rename, Path: "a", To: "D/z"}, api.ErrParent, nil},
		{"a directory to a spare name", l, api.Op{Kind: api.Rename, Path: "d", To: "~0"}, api.ErrName, nil},
		{"an empty directory to a spare name", l, api.Op{Kind: api.Rename, Path: "x", To: "~0"}, api.ErrName, nil},
		{"none ahead of inside", l, api.Op{Kind: api.Rename, Path: "y", To: "y/z"}, api.ErrNone, nil},
		{"none ahead of exist", l, api.Op{Kind: api.Rename, Path: "y", To: "a"}, api.ErrNone, nil},
		{"inside ahead of exist", l, api.Op{Kind: api.Rename, Path: "d", To: "d/e"}, api.ErrInside, nil},
		{"inside ahead of parent", l, api.Op{Kind: api.Rename, Path: "d", To: "d/y/z"}, api.ErrInside, nil},
		{"exist ahead of name", l, api.Op{Kind: api.Rename, Path: "d", To: "~1"}, api.ErrExist, nil},
		{"never too many", full(), api.Op{Kind: api.Rename, Path: "d", To: "x"}, api.OK, append(files(118), dir("x"), file("x/f", 1))},
	})
}

func TestDoRenameDepth(t *testing.T) {
	l := []api.Entry{dir("a"), dir("a/b"), file("a/b/c", 1), dir("d"), dir("d/e"), dir("d/e/f"), dir("d/e/f/g"), dir("d/e/f/g/h"), file("d/e/f/g/h/i", 2), dir("x"), file("y", 3)}
	doAll(t, false, []doCase{
		{"seven names", l, api.Op{Kind: api.Rename, Path: "a", To: "d/e/f/g/j"}, api.ErrName, nil},
		{"eight names", l, api.Op{Kind: api.Rename, Path: "a", To: "d/e/f/g/h/j"}, api.ErrName, nil},
		{"six names", l, api.Op{Kind: api.Rename, Path: "a", To: "d/e/f/j"}, api.OK, []api.Entry{l[3], l[4], l[5], l[6], l[7], l[8], dir("d/e/f/j"), dir("d/e/f/j/b"), file("d/e/f/j/b/c", 1), l[9], l[10]}},
		{"an empty one", l, api.Op{Kind: api.Rename, Path: "x", To: "d/e/f/g/h/x"}, api.OK, append(slices.Clone(l[:9]), dir("d/e/f/g/h/x"), l[10])},
		{"a file", l, api.Op{Kind: api.Rename, Path: "y", To: "d/e/f/g/h/y"}, api.OK, append(slices.Clone(l[:9]), file("d/e/f/g/h/y", 3), l[9])},
		{"parent ahead of name", l, api.Op{Kind: api.Rename, Path: "a", To: "d/e/f/g/j/k"}, api.ErrParent, nil},
		{"exist ahead of name", l, api.Op{Kind: api.Rename, Path: "a", To: "d/e/f/g/h"}, api.ErrExist, nil},
	})
}

func TestDoChmod(t *testing.T) {
	l := []api.Entry{file("a", 1), dir("d"), file("~1", 2)}
	doAll(t, false, []doCase{
		{"a file", l, api.Op{Kind: api.Chmod, Path: "a", Mode: 511}, api.OK, []api.Entry{{Path: "a", Id: 1, Size: 1, Mode: 511}, l[1], l[2]}},
		{"a directory", l, api.Op{Kind: api.Chmod, Path: "d", Mode: 1}, api.OK, []api.Entry{l[0], {Path: "d", Dir: true, Mode: 1}, l[2]}},
		{"a spare file", l, api.Op{Kind: api.Chmod, Path: "~1", Mode: 2}, api.OK, []api.Entry{l[0], l[1], {Path: "~1", Id: 2, Size: 1, Mode: 2}}},
		{"the same", l, api.Op{Kind: api.Chmod, Path: "a"}, api.OK, l},
		{"nothing", l, api.Op{Kind: api.Chmod, Path: "b"}, api.ErrNone, nil},
		{"another case", l, api.Op{Kind: api.Chmod, Path: "A"}, api.ErrNone, nil},
	})
}

// What is there keeps its names; what is made or moved has the last name as told, below a parent as that stands.
func TestDoWhereItFolds(t *testing.T) {
	l := []api.Entry{dir("Dir"), dir("Dir/Sub"), file("Dir/Sub/f", 1), file("Dir/g", 2), file("a", 3)}
	doAll(t, true, []doCase{
		{"mkdir, there", l, api.Op{Kind: api.Mkdir, Path: "dIR"}, api.ErrExist, nil},
		{"mkdir, there below", l, api.Op{Kind: api.Mkdir, Path: "dir/G"}, api.ErrExist, nil},
		{"mkdir", l, api.Op{Kind: api.Mkdir, Path: "DIR/SUB/New"}, api.OK, []api.Entry{l[0], l[1], dir("Dir/Sub/New"), l[2], l[3], l[4]}},
		{"rmdir", l, api.Op{Kind: api.Rmdir, Path: "dir/sub"}, api.ErrBusy, nil},
		{"rmdir, empty", l[:2], api.Op{Kind: api.Rmdir, Path: "dir/sub"}, api.OK, l[:1]},
		{"unlink", l, api.Op{Kind: api.Unlink, Path: "dir/sub/F"}, api.OK, []api.Entry{l[0], l[1], l[3], l[4]}},
		{"write", l, api.Op{Kind: api.Write, Path: "dir/H", Id: 4, Size: 1}, api.OK, []api.Entry{l[0], file("Dir/H", 4), l[1], l[2], l[3], l[4]}},
		{"write, there", l, api.Op{Kind: api.Write, Path: "A", Id: 4, Size: 1}, api.ErrExist, nil},
		{"copy", l, api.Op{Kind: api.Copy, Path: "A", To: "DIR/A", Mode: 1}, api.OK, []api.Entry{l[0], {Path: "Dir/A", Id: 3, Size: 1, Mode: 1}, l[1], l[2], l[3], l[4]}},
		{"copy to itself", l, api.Op{Kind: api.Copy, Path: "a", To: "A"}, api.ErrExist, nil},
		{"copy a directory", l, api.Op{Kind: api.Copy, Path: "DIR", To: "x"}, api.ErrKind, nil},
		{"chmod", l, api.Op{Kind: api.Chmod, Path: "DIR", Mode: 1}, api.OK, []api.Entry{{Path: "Dir", Dir: true, Mode: 1}, l[1], l[2], l[3], l[4]}},
		{"rename to another case", l, api.Op{Kind: api.Rename, Path: "DIR", To: "dir"}, api.OK, []api.Entry{l[4], dir("dir"), dir("dir/Sub"), file("dir/Sub/f", 1), file("dir/g", 2)}},
		{"rename below, the parent told in another case", l, api.Op{Kind: api.Rename, Path: "dir/sub", To: "DIR/SUB"}, api.OK, []api.Entry{l[0], dir("Dir/SUB"), file("Dir/SUB/f", 1), l[3], l[4]}},
		{"rename to just itself", l, api.Op{Kind: api.Rename, Path: "dir", To: "Dir"}, api.OK, l},
		{"rename", l, api.Op{Kind: api.Rename, Path: "A", To: "dir/sub/B"}, api.OK, []api.Entry{l[0], l[1], file("Dir/Sub/B", 3), l[2], l[3]}},
		{"rename, there", l, api.Op{Kind: api.Rename, Path: "a", To: "DIR/G"}, api.ErrExist, nil},
		{"rename inside", l, api.Op{Kind: api.Rename, Path: "dir", To: "DIR/sub/x"}, api.ErrInside, nil},
		{"rename inside ahead of exist", l, api.Op{Kind: api.Rename, Path: "dir", To: "DIR/SUB"}, api.ErrInside, nil},
		{"rename a file inside", l, api.Op{Kind: api.Rename, Path: "a", To: "A/x"}, api.ErrInside, nil},
		{"rename up to the parent", l, api.Op{Kind: api.Rename, Path: "dir/sub", To: "DIR"}, api.ErrExist, nil},
	})
}

func TestDoNoOperation(t *testing.T) {
	l := []api.Entry{file("a", 1), dir("b"), dir("d"), file("~1", 1)}
	v := mount(t, l, false, 100)
	for _, o := range wrongOps() {
		if e := v.Do(o); e != api.ErrScript || !slices.Equal(v.Tree(), l) {
			t.Errorf("Do(%+v) = %d, %+v", o, e, v.Tree())
		}
	}
	for _, o := range sampleOps() {
		if e := mount(t, l, false, 100).Do(o); e == api.ErrScript {
			t.Errorf("Do(%+v) = %d", o, e)
		}
	}
}

// Space that files leave can be filled again, to the last of it.
func TestDoSpace(t *testing.T) {
	v := mount(t, []api.Entry{sized("a", 1, 60)}, false, 100)
	for i, c := range []struct {
		o api.Op
		e api.Errno
	}{
		{api.Op{Kind: api.Copy, Path: "a", To: "b"}, api.ErrFull},
		{api.Op{Kind: api.Write, Path: "b", Id: 2, Size: 41}, api.ErrFull},
		{api.Op{Kind: api.Write, Path: "b", Id: 2, Size: 40}, api.OK},
		{api.Op{Kind: api.Write, Path: "c", Id: 3, Size: 1}, api.ErrFull},
		{api.Op{Kind: api.Write, Path: "c", Id: 4, Size: 0}, api.OK},
		{api.Op{Kind: api.Copy, Path: "c", To: "~1"}, api.OK},
		{api.Op{Kind: api.Mkdir, Path: "d"}, api.OK},
		{api.Op{Kind: api.Rename, Path: "a", To: "d/a"}, api.OK},
		{api.Op{Kind: api.Unlink, Path: "d/a"}, api.OK},
		{api.Op{Kind: api.Write, Path: "a", Id: 1, Size: 20}, api.OK},
		{api.Op{Kind: api.Copy, Path: "b", To: "d/b"}, api.OK},
		{api.Op{Kind: api.Write, Path: "e", Id: 5, Size: 1}, api.ErrFull},
	} {
		if e := v.Do(c.o); e != c.e {
			t.Errorf("%d: Do(%+v) = %d, want %d", i, c.o, e, c.e)
		}
	}
	if got := v.Tree(); !slices.Equal(got, []api.Entry{sized("a", 1, 20), sized("b", 2, 40), sized("c", 4, 0), dir("d"), sized("d/b", 2, 40), sized("~1", 4, 0)}) {
		t.Errorf("Tree = %+v", got)
	}
}

func TestDoAgainstTheModel(t *testing.T) {
	r := rand.New(rand.NewSource(11))
	seen := map[api.Errno]int{}
	for range 3000 {
		l := randomTree(r)
		e, _ := convoy.Check(l, true)
		fold := e == api.OK && r.Intn(3) > 0
		space := sizesOf(l) + r.Intn(100)
		v, m := mount(t, l, fold, space), newModel(l, fold, space)
		for range 40 {
			before := m.tree()
			o := likelyOp(r, before)
			got, want := v.Do(o), m.do(o)
			seen[want]++
			if got != want || !slices.Equal(v.Tree(), m.tree()) {
				t.Fatalf("fold %v, space %d, on %+v: Do(%+v) = %d, %+v, want %d, %+v", fold, space, before, o, got, v.Tree(), want, m.tree())
			}
			if w, e := convoy.Mount(v.Tree(), fold, space, ""); w == nil || e != api.OK {
				t.Fatalf("what the volume holds may not be: %d, %+v", e, v.Tree())
			}
		}
	}
	for _, e := range []api.Errno{api.OK, api.ErrName, api.ErrParent, api.ErrSize, api.ErrExist, api.ErrNone, api.ErrKind, api.ErrFull, api.ErrInside, api.ErrBusy} {
		if seen[e] < 50 {
			t.Errorf("the error %d came %d times alone", e, seen[e])
		}
	}
}
