package convoy_test

import (
	"slices"
	"testing"

	"convoy/api"
	"convoy/convoy"
)

func wantMount(t *testing.T, name string, l []api.Entry, fold bool, space int, want api.Errno) {
	t.Helper()
	v, e := convoy.Mount(l, fold, space, "j")
	if e != want || (v != nil) != (want == api.OK) {
		t.Errorf("%s: Mount = %v, %d, want %d", name, v, e, want)
		return
	}
	if v != nil && (!slices.Equal(v.Tree(), l) || v.Journal() != "j") {
		t.Errorf("%s: Tree = %+v, Journal = %q", name, v.Tree(), v.Journal())
	}
}

func TestMountTrees(t *testing.T) {
	for _, fold := range []bool{false, true} {
		wantMount(t, "nothing", nil, fold, 0, api.OK)
		wantMount(t, "as many as may be", full(), fold, 119, api.OK)
		wantMount(t, "one too many", append(full(), file("x", 1)), fold, 1000, api.ErrEntry)
		wantMount(t, "spare names by their bytes", []api.Entry{dir("d"), file("z", 1), file("~0", 2), file("~00", 1), file("~1", 3), file("~10", 4), file("~2", 5), file("~9999999", 6)}, fold, 100, api.OK)
		wantMount(t, "spare names by their numbers", []api.Entry{file("~2", 1), file("~10", 1)}, fold, 100, api.ErrEntry)
		wantMount(t, "a spare name twice", []api.Entry{file("~2", 1), file("~2", 1)}, fold, 100, api.ErrEntry)
		wantMount(t, "a spare name ahead of others", []api.Entry{file("~2", 1), file("a", 1)}, fold, 100, api.ErrEntry)
		wantMount(t, "a directory with a spare name", []api.Entry{dir("~1")}, fold, 100, api.ErrEntry)
		wantMount(t, "a spare name below", []api.Entry{dir("d"), file("d/~1", 1)}, fold, 100, api.ErrEntry)
		wantMount(t, "below a spare name", []api.Entry{file("~1", 1), file("~1/d", 1)}, fold, 100, api.ErrEntry)
		wantMount(t, "no spare name", []api.Entry{file("~", 1)}, fold, 100, api.ErrEntry)
		wantMount(t, "too long a spare name", []api.Entry{file("~12345678", 1)}, fold, 100, api.ErrEntry)
		wantMount(t, "a spare file without an Id", []api.Entry{{Path: "~1"}}, fold, 100, api.ErrEntry)
		wantMount(t, "a spare file with another Size", []api.Entry{file("a", 1), sized("~1", 1, 2)}, fold, 100, api.ErrEntry)
		wantMount(t, "a name", []api.Entry{file("a b", 1)}, fold, 100, api.ErrEntry)
		wantMount(t, "an entry", []api.Entry{{Path: "a", Dir: true, Id: 1}}, fold, 100, api.ErrEntry)
		wantMount(t, "order", []api.Entry{file("b", 1), file("a", 1)}, fold, 100, api.ErrEntry)
		wantMount(t, "parent", []api.Entry{file("a/b", 1)}, fold, 100, api.ErrEntry)
		wantMount(t, "parent by folding", []api.Entry{dir("A"), file("a/b", 1)}, fold, 100, api.ErrEntry)
	}
	wantMount(t, "two that are one by folding", []api.Entry{dir("A"), dir("a")}, true, 100, api.ErrEntry)
	wantMount(t, "two that are not", []api.Entry{dir("A"), dir("a")}, false, 100, api.OK)
}

func TestMountSpace(t *testing.T) {
	l := []api.Entry{sized("a", 1, 40), sized("b", 1, 40), sized("~1", 2, 20)}
	wantMount(t, "just enough", l, false, 100, api.OK)
	wantMount(t, "one too little", l, false, 99, api.ErrFull)
	wantMount(t, "none", l, false, 0, api.ErrFull)
	wantMount(t, "the most", l, false, api.MaxSpace, api.OK)
	wantMount(t, "more than the most", l, false, api.MaxSpace+1, api.ErrFull)
	wantMount(t, "none for nothing", nil, false, 0, api.OK)
	for _, space := range []int{-1, -1 << 63, 1<<63 - 1, 1 << 40} {
		wantMount(t, "no space", nil, false, space, api.ErrFull)
		wantMount(t, "entry ahead of full", []api.Entry{file("", 1)}, false, space, api.ErrEntry)
	}
}

func TestMountJournal(t *testing.T) {
	for _, journal := range []string{"", "x", "\x00\xff\n", "é", string(make([]byte, 1<<20))} {
		v, e := convoy.Mount(nil, false, 0, journal)
		if e != api.OK || v.Journal() != journal {
			t.Errorf("Journal of %d bytes: %d, %d bytes", len(journal), e, len(v.Journal()))
		}
	}
}
