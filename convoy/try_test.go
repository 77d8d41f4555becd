package convoy_test

import (
	"fmt"
	"math/rand"
	"slices"
	"testing"

	"convoy/api"
	"convoy/convoy"
)

type tryCase struct {
	name string
	s    []api.Entry
	fold bool
	l    []api.Op
	want []api.Entry
	need int
	e    api.Errno
	at   int
}

func tryAll(t *testing.T, cases []tryCase) {
	t.Helper()
	for _, c := range cases {
		got, need, e, at := convoy.Try(c.s, c.fold, c.l)
		if !slices.Equal(got, c.want) || need != c.need || e != c.e || at != c.at {
			t.Errorf("%s: Try = %+v, %d, %d, %d, want %+v, %d, %d, %d", c.name, got, need, e, at, c.want, c.need, c.e, c.at)
		}
	}
}

func TestTry(t *testing.T) {
	two := []api.Entry{sized("a", 1, 10), sized("b", 2, 20)}
	folds := []api.Entry{dir("D"), sized("D/f", 1, 10)}
	rename := []api.Op{{Kind: api.Rename, Path: "d", To: "d"}}
	tryAll(t, []tryCase{
		{name: "nothing"},
		{name: "no operation", s: two, want: two, need: 30},
		{name: "the document's", s: two, l: []api.Op{{Kind: api.Rename, Path: "a", To: "~0"}, {Kind: api.Rename, Path: "b", To: "a"}, {Kind: api.Rename, Path: "~0", To: "b"}}, want: []api.Entry{sized("a", 2, 20), sized("b", 1, 10)}, need: 30},
		{name: "a spare name stays", s: two, l: []api.Op{{Kind: api.Rename, Path: "a", To: "~0"}}, want: []api.Entry{two[1], sized("~0", 1, 10)}, need: 30},
		{name: "most at the beginning", s: two, l: []api.Op{{Kind: api.Unlink, Path: "b"}, {Kind: api.Copy, Path: "a", To: "b"}, {Kind: api.Unlink, Path: "a"}}, want: []api.Entry{sized("b", 1, 10)}, need: 30},
		{name: "most between", s: two, l: []api.Op{{Kind: api.Copy, Path: "b", To: "c"}, {Kind: api.Unlink, Path: "b"}, {Kind: api.Unlink, Path: "c"}}, want: two[:1], need: 50},
		{name: "most at the end", s: two, l: []api.Op{{Kind: api.Unlink, Path: "b"}, {Kind: api.Write, Path: "c", Id: 3, Size: 100}}, want: []api.Entry{two[0], sized("c", 3, 100)}, need: 110},
		{name: "folds", s: folds, fold: true, l: rename, want: []api.Entry{dir("d"), sized("d/f", 1, 10)}, need: 10},
		{name: "doesn't fold", s: folds, l: rename, e: api.ErrNone},
	})
}

func TestTryErrors(t *testing.T) {
	s := []api.Entry{file("a", 1), dir("d")}
	goes, fails, wrong := api.Op{Kind: api.Chmod, Path: "a"}, api.Op{Kind: api.Unlink, Path: "d"}, api.Op{Kind: api.Mkdir, Path: "~1"}
	long := slices.Repeat([]api.Op{goes}, api.MaxOps+1)
	tryAll(t, []tryCase{
		{name: "the first that fails", s: s, l: []api.Op{goes, fails, goes, {Kind: api.Unlink, Path: "x"}}, e: api.ErrKind, at: 1},
		{name: "the very first", s: s, l: []api.Op{fails}, e: api.ErrKind},
		{name: "done one behind the other", s: s, l: []api.Op{{Kind: api.Rmdir, Path: "d"}, {Kind: api.Rmdir, Path: "d"}}, e: api.ErrNone, at: 1},
		{name: "another Size", s: s, l: []api.Op{{Kind: api.Write, Path: "b", Id: 1, Size: 2}}, e: api.ErrSize},
		{name: "no script", s: s, l: []api.Op{goes, goes, wrong, wrong}, e: api.ErrScript, at: 2},
		{name: "script ahead of what fails", s: s, l: []api.Op{fails, goes, wrong}, e: api.ErrScript, at: 2},
		{name: "as long as may be", s: s, l: long[:api.MaxOps], want: s, need: 1},
		{name: "too long", s: s, l: long, e: api.ErrScript, at: api.MaxOps},
		{name: "much too long", s: s, l: slices.Repeat(long, 3), e: api.ErrScript, at: api.MaxOps},
		{name: "too long, wrong within", s: s, l: append(slices.Repeat([]api.Op{goes}, 7), append([]api.Op{wrong}, long...)...), e: api.ErrScript, at: 7},
		{name: "too long, wrong behind", s: s, l: append(slices.Clone(long), wrong), e: api.ErrScript, at: api.MaxOps},
		{name: "no tree", s: []api.Entry{file("b", 1), file("a", 1)}, l: []api.Op{goes}, e: api.ErrEntry},
		{name: "no tree ahead of no script", s: []api.Entry{file("a", 1), file("a", 1)}, l: []api.Op{goes, wrong}, e: api.ErrEntry},
		{name: "a spare name", s: []api.Entry{file("~1", 1)}, e: api.ErrEntry},
		{name: "two that are one by folding", s: []api.Entry{file("A", 1), file("a", 1)}, fold: true, e: api.ErrEntry},
		{name: "two that are not", s: []api.Entry{file("A", 1), file("a", 1)}, want: []api.Entry{file("A", 1), file("a", 1)}, need: 2},
		{name: "more than a tree has", s: files(api.MaxEntries + 1), e: api.ErrEntry},
	})
	for _, o := range wrongOps() {
		tryAll(t, []tryCase{{name: "wrong", s: s, l: []api.Op{goes, o, goes}, e: api.ErrScript, at: 1}})
	}
}

// There is space for all that a volume may hold, but no room for one entry more.
func TestTryFullVolume(t *testing.T) {
	var l []api.Op
	for i := range 121 {
		l = append(l, api.Op{Kind: api.Write, Path: fmt.Sprintf("f%03d", i), Id: 1 + i, Size: 100})
	}
	if got, need, e, _ := convoy.Try(nil, false, l[:120]); len(got) != 120 || need != 12000 || e != api.OK {
		t.Errorf("120 files: %d, %d, %d", len(got), need, e)
	}
	tryAll(t, []tryCase{{name: "121 files", l: l, e: api.ErrMany, at: 120}})
}

func TestTryAgainstTheModel(t *testing.T) {
	r := rand.New(rand.NewSource(12))
	whole := 0
	for range 3000 {
		s := randomTree(r)
		e, _ := convoy.Check(s, true)
		fold := e == api.OK && r.Intn(3) > 0
		m := newModel(s, fold, 1<<40)
		c := tryCase{name: "random", s: s, fold: fold, need: m.sum()}
		for range r.Intn(30) {
			o := likelyOp(r, m.tree())
			e := m.do(o)
			if e != api.OK && r.Intn(10) > 0 {
				continue // else nearly no script would go
			}
			c.l = append(c.l, o)
			if c.e == api.OK && e != api.OK {
				c.e, c.at = e, len(c.l)-1
			}
			c.need = max(c.need, m.sum())
		}
		if c.e != api.OK {
			c.need = 0
		} else {
			c.want = m.tree()
			whole++
		}
		tryAll(t, []tryCase{c})
	}
	if whole < 500 {
		t.Errorf("%d scripts alone went", whole)
	}
}
