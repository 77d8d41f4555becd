package convoy_test

import (
	"fmt"
	"math"
	"math/rand"
	"slices"
	"testing"

	"convoy/api"
	"convoy/convoy"
)

// job is a script from a tree, on a volume with so much space.
type job struct {
	name  string
	s     []api.Entry
	fold  bool
	space int
	l     []api.Op
}

// left is what stays of a volume where Work ended.
type left struct {
	tree    []api.Entry
	journal string
}

func leave(v *convoy.Volume) left { return left{v.Tree(), v.Journal()} }

func (a left) equal(b left) bool { return slices.Equal(a.tree, b.tree) && a.journal == b.journal }

func (j job) start() left { return left{j.s, ""} }

// take mounts what was left.
func (j job) take(t *testing.T, at left) *convoy.Volume {
	t.Helper()
	v, e := convoy.Mount(at.tree, j.fold, j.space, at.journal)
	if v == nil || e != api.OK {
		t.Fatalf("%s: Mount(%+v, %q) = %d", j.name, at.tree, at.journal, e)
	}
	return v
}

// way gives the trees that come of the first operations, as the model does them, and the error that the next one tells.
func (j job) way() ([][]api.Entry, api.Errno) {
	m := newModel(j.s, j.fold, j.space)
	all := [][]api.Entry{m.tree()}
	for _, o := range j.l {
		if e := m.do(o); e != api.OK {
			return all, e
		}
		all = append(all, m.tree())
	}
	return all, api.OK
}

// further gives the number of a tree in the way that is not behind the last one, or -1.
func further(way [][]api.Entry, last int, tree []api.Entry) int {
	for i := last; i < len(way); i++ {
		if slices.Equal(way[i], tree) {
			return i
		}
	}
	return -1
}

// isOneChange tells whether just one thing at most was done from a to b.
func isOneChange(way [][]api.Entry, a, b left) bool {
	if slices.Equal(a.tree, b.tree) {
		n := len(a.journal)
		return a.journal == b.journal || b.journal == "" || len(b.journal) == n+1 && b.journal[:n] == a.journal
	}
	for i := range len(way) - 1 {
		if slices.Equal(way[i], a.tree) && slices.Equal(way[i+1], b.tree) {
			return a.journal == b.journal
		}
	}
	return false
}

func jobs() []job {
	two := []api.Entry{file("a", 1), file("b", 2), dir("d"), file("d/x", 3)}
	chmod := func(mode int) api.Op { return api.Op{Kind: api.Chmod, Path: "a", Mode: mode} }
	move := func(from, to string) api.Op { return api.Op{Kind: api.Rename, Path: from, To: to} }
	return []job{
		{"nothing", nil, false, 0, nil},
		{"no operation", two, false, 3, nil},
		{"one", two, false, 3, []api.Op{chmod(7)}},
		{"of every kind", changedTree, false, 100, changesOfAll},
		{"from nothing", nil, false, 5, []api.Op{{Kind: api.Mkdir, Path: "d"}, {Kind: api.Write, Path: "d/f", Id: 1, Size: 5}}},
		{"to nothing", two, false, 3, []api.Op{{Kind: api.Unlink, Path: "d/x"}, {Kind: api.Rmdir, Path: "d"}, {Kind: api.Unlink, Path: "b"}, {Kind: api.Unlink, Path: "a"}}},
		{"a ring", two, false, 3, []api.Op{move("a", "~0"), move("b", "a"), move("~0", "b")}},
		{"back to where it began", two, false, 3, []api.Op{chmod(1), chmod(0)}},
		{"there and back often", two, false, 3, []api.Op{chmod(1), chmod(0), chmod(1), chmod(0), move("a", "c"), move("c", "a"), chmod(1), chmod(0)}},
		{"through where it began", two, false, 3, []api.Op{move("a", "c"), move("c", "a"), chmod(3)}},
		{"nothing is changed", two, false, 3, []api.Op{chmod(0)}},
		{"nothing is changed, often", two, false, 3, []api.Op{chmod(0), move("d", "d"), chmod(0), chmod(0)}},
		{"nothing is changed at first", two, false, 3, []api.Op{chmod(0), move("a", "a"), chmod(1)}},
		{"nothing is changed at last", two, false, 3, []api.Op{chmod(1), chmod(1), move("b", "b")}},
		{"nothing is changed between", two, false, 3, []api.Op{chmod(1), chmod(1), chmod(0), chmod(0), chmod(1), chmod(1)}},
		{"a spare name stays", two, false, 4, []api.Op{{Kind: api.Copy, Path: "a", To: "~1"}, move("b", "~2")}},
		{"folds", []api.Entry{dir("D"), file("D/f", 1)}, true, 2, []api.Op{move("d", "d"), move("D/F", "D/F"), {Kind: api.Copy, Path: "D/f", To: "D/g"}, move("d", "D")}},
		{"doesn't fold", []api.Entry{dir("D"), file("D/f", 1)}, false, 2, []api.Op{{Kind: api.Mkdir, Path: "d"}, {Kind: api.Copy, Path: "D/f", To: "d/f"}, {Kind: api.Unlink, Path: "D/f"}, {Kind: api.Rmdir, Path: "D"}}},
	}
}

// each budget from none to enough, each on a new volume.
func TestWorkByEveryBudget(t *testing.T) {
	for _, j := range jobs() {
		t.Run(j.name, func(t *testing.T) {
			way, _ := j.way()
			before, last := j.start(), 0
			for budget := 0; ; budget++ {
				v := j.take(t, j.start())
				e, n := v.Work(j.s, j.l, budget)
				now := leave(v)
				last = further(way, last, now.tree)
				if last < 0 || !isOneChange(way, before, now) {
					t.Fatalf("budget %d: %+v, %q, with one less %+v, %q", budget, now.tree, now.journal, before.tree, before.journal)
				}
				if e == api.OK {
					if n != len(j.l) || !slices.Equal(now.tree, way[n]) {
						t.Errorf("budget %d: Work = %d, %d, %+v", budget, e, n, now.tree)
					}
					return
				}
				if e != api.ErrStop || n != 0 || budget >= 100*(len(j.l)+1) {
					t.Fatalf("budget %d: Work = %d, %d", budget, e, n)
				}
				before = now
			}
		})
	}
}

func TestWorkWithoutBudget(t *testing.T) {
	for _, j := range jobs() {
		for _, budget := range []int{0, -1, -100, math.MinInt} {
			v := j.take(t, j.start())
			want := api.ErrStop
			if len(j.l) == 0 {
				want = api.OK
			}
			if e, n := v.Work(j.s, j.l, budget); e != want || n != 0 || !leave(v).equal(j.start()) {
				t.Errorf("%s: budget %d: Work = %d, %d, %+v", j.name, budget, e, n, leave(v))
			}
		}
	}
}

// stops gives every point at which a job may be left, from the start to where Work ends without a stop.
func (j job) stops(t *testing.T) []left {
	t.Helper()
	var all []left
	for budget := 0; ; budget++ {
		v := j.take(t, j.start())
		e, _ := v.Work(j.s, j.l, budget)
		all = append(all, leave(v))
		if e != api.ErrStop {
			return all
		}
		if budget > 100*(len(j.l)+1) {
			t.Fatalf("%s: budget %d is not enough", j.name, budget)
		}
	}
}

// Left anywhere and taken up, it goes on as if it had never been left.
func TestWorkTakenUp(t *testing.T) {
	for _, j := range jobs() {
		all := j.stops(t)
		for spent, at := range all {
			for budget := range len(all) + 3 {
				want := min(spent+budget, len(all)-1)
				v := j.take(t, at)
				e, n := v.Work(j.s, j.l, budget)
				if now := leave(v); !now.equal(all[want]) || (e == api.OK) != (want == len(all)-1) || e != api.OK && (e != api.ErrStop || n != 0) || e == api.OK && n != len(j.l) {
					t.Fatalf("%s: left behind %d, budget %d: Work = %d, %d, %+v, want %+v", j.name, spent, budget, e, n, now, all[want])
				}
			}
		}
	}
}

// The same without mounting anew.
func TestWorkOnOneVolume(t *testing.T) {
	for _, j := range jobs() {
		all := j.stops(t)
		for step := 1; step < 5; step++ {
			v := j.take(t, j.start())
			for spent := 0; spent < len(all)-1; {
				spent = min(spent+step, len(all)-1)
				e, _ := v.Work(j.s, j.l, step)
				if now := leave(v); !now.equal(all[spent]) || (e == api.OK) != (spent == len(all)-1) {
					t.Fatalf("%s: by %d, %d spent: Work = %d, %+v, want %+v", j.name, step, spent, e, now, all[spent])
				}
			}
		}
	}
}

func TestWorkDoneStaysDone(t *testing.T) {
	for _, j := range jobs() {
		all := j.stops(t)
		end := all[len(all)-1]
		v := j.take(t, end)
		for _, budget := range []int{0, 1, -1, 100, 100000, math.MaxInt, math.MinInt, 0} {
			w := j.take(t, end)
			for _, u := range []*convoy.Volume{v, w} {
				if e, n := u.Work(j.s, j.l, budget); e != api.OK || n != len(j.l) || !leave(u).equal(end) {
					t.Errorf("%s: budget %d: Work = %d, %d, %+v, want %+v", j.name, budget, e, n, leave(u), end)
				}
			}
		}
	}
}

func TestWorkOfTheLongest(t *testing.T) {
	j := job{name: "longest", s: files(api.MaxEntries), space: 120}
	for i := range api.MaxOps / 8 {
		path, spare := fmt.Sprintf("f%03d", i), fmt.Sprintf("~%d", i)
		j.l = append(j.l, api.Op{Kind: api.Copy, Path: path, To: spare}, api.Op{Kind: api.Chmod, Path: spare, Mode: 7}, api.Op{Kind: api.Unlink, Path: path}, api.Op{Kind: api.Mkdir, Path: path})
	}
	for i := range api.MaxOps / 8 {
		path, spare := fmt.Sprintf("f%03d", i), fmt.Sprintf("~%d", i)
		j.l = append(j.l, api.Op{Kind: api.Rmdir, Path: path}, api.Op{Kind: api.Rename, Path: spare, To: path}, api.Op{Kind: api.Chmod, Path: path}, api.Op{Kind: api.Chmod, Path: path})
	}
	way, e := j.way()
	if e != api.OK || len(j.l) != api.MaxOps || !slices.Equal(way[api.MaxOps], j.s) {
		t.Fatalf("%d operations, %d", len(j.l), e)
	}
	v := j.take(t, j.start())
	if e, n := v.Work(j.s, j.l, 100*(api.MaxOps+1)); e != api.OK || n != api.MaxOps || !slices.Equal(v.Tree(), j.s) {
		t.Errorf("Work = %d, %d, %+v", e, n, v.Tree())
	}
	for _, budget := range []int{7, 100, 101} {
		at, last := j.start(), 0
		for e := api.ErrStop; e != api.OK; {
			v := j.take(t, at)
			e, _ = v.Work(j.s, j.l, budget)
			at = leave(v)
			if last = further(way, last+1, at.tree); last < 0 {
				t.Fatalf("by %d: Work = %d, %+v", budget, e, at)
			}
		}
		if !slices.Equal(at.tree, j.s) {
			t.Errorf("by %d: %+v", budget, at)
		}
	}
	if e, n := j.take(t, j.start()).Work(j.s, append(slices.Clone(j.l), j.l[0]), 1000000); e != api.ErrScript || n != api.MaxOps {
		t.Errorf("one too many: %d, %d", e, n)
	}
}

func TestWorkErrors(t *testing.T) {
	s := []api.Entry{file("a", 1), dir("d")}
	spare := append(slices.Clone(s), file("~1", 1))
	noTree := []api.Entry{file("b", 1), file("a", 1)}
	two := []api.Entry{file("A", 1), file("a", 1)}
	goes, fails, wrong := api.Op{Kind: api.Chmod, Path: "a", Mode: 1}, api.Op{Kind: api.Unlink, Path: "d"}, api.Op{Kind: api.Mkdir, Path: "~1"}
	great := api.Op{Kind: api.Write, Path: "g", Id: 2, Size: 100}
	for _, c := range []struct {
		name  string
		tree  []api.Entry
		fold  bool
		s     []api.Entry
		l     []api.Op
		e     api.Errno
		at    int
		stays bool
	}{
		{"no tree", s, false, noTree, nil, api.ErrEntry, 0, true},
		{"no tree, ahead of no script", s, false, noTree, []api.Op{goes, wrong}, api.ErrEntry, 0, true},
		{"a spare name", spare, false, spare, nil, api.ErrEntry, 0, true},
		{"too many entries", s, false, files(api.MaxEntries + 1), nil, api.ErrEntry, 0, true},
		{"two that are one by folding", nil, true, two, nil, api.ErrEntry, 0, true},
		{"two that are not", two, false, two, nil, api.OK, 0, true},
		{"no script", s, false, s, []api.Op{goes, goes, wrong, wrong}, api.ErrScript, 2, true},
		{"no script, ahead of what fails", s, false, s, []api.Op{fails, goes, wrong}, api.ErrScript, 2, true},
		{"no script, ahead of another tree", spare, false, s, []api.Op{goes, wrong}, api.ErrScript, 1, true},
		{"one that fails", s, false, s, []api.Op{goes, fails}, api.ErrScript, 1, true},
		{"one that fails, ahead of another tree", spare, false, s, []api.Op{goes, fails}, api.ErrScript, 1, true},
		{"one that fails in the script's tree alone", []api.Entry{file("a", 1)}, false, s, []api.Op{{Kind: api.Mkdir, Path: "d"}}, api.ErrScript, 0, true},
		{"one that fails by folding", s, true, s, []api.Op{goes, {Kind: api.Mkdir, Path: "D"}}, api.ErrScript, 1, true},
		{"one that goes by folding", s, true, s, []api.Op{{Kind: api.Rmdir, Path: "D"}}, api.OK, 1, false},
		{"one that would go by folding", s, false, s, []api.Op{{Kind: api.Rmdir, Path: "D"}}, api.ErrScript, 0, true},
		{"less", s[:1], false, s, []api.Op{goes}, api.ErrSource, 0, true},
		{"more", spare, false, s, []api.Op{goes}, api.ErrSource, 0, true},
		{"another Id", []api.Entry{file("a", 2), dir("d")}, false, s, []api.Op{goes}, api.ErrSource, 0, true},
		{"another Size", []api.Entry{sized("a", 1, 2), dir("d")}, false, s, []api.Op{goes}, api.ErrSource, 0, true},
		{"another Mode", []api.Entry{file("a", 1), moded(dir("d"), 1)}, false, s, []api.Op{goes}, api.ErrSource, 0, true},
		{"another kind", []api.Entry{file("a", 1), file("d", 1)}, false, s, []api.Op{goes}, api.ErrSource, 0, true},
		{"the same by folding alone", []api.Entry{dir("D"), file("a", 1)}, true, s, []api.Op{goes}, api.ErrSource, 0, true},
		{"what comes of the first operation", []api.Entry{moded(s[0], 1), s[1]}, false, s, []api.Op{goes}, api.ErrSource, 0, true},
		{"another tree for no operation", s[:1], false, s, nil, api.ErrSource, 0, true},
		{"another tree, ahead of full", s[:1], false, s, []api.Op{great}, api.ErrSource, 0, true},
		{"no space", s, false, s, []api.Op{great}, api.ErrFull, 0, true},
		{"no space behind another", s, false, s, []api.Op{goes, great}, api.ErrFull, 1, false},
		{"no space, but what fails behind it", s, false, s, []api.Op{great, fails}, api.ErrScript, 1, true},
	} {
		for _, budget := range []int{0, 1000} {
			v, _ := convoy.Mount(c.tree, c.fold, 10, "")
			want, at := c.e, c.at
			if budget == 0 && (want == api.ErrFull || want == api.OK && len(c.l) > 0) {
				want, at = api.ErrStop, 0
			}
			e, n := v.Work(c.s, c.l, budget)
			if e != want || n != at || (c.stays || budget == 0) && !slices.Equal(v.Tree(), c.tree) || want != api.ErrFull && want != api.OK && v.Journal() != "" {
				t.Errorf("%s: budget %d: Work = %d, %d, %+v, %q, want %d, %d", c.name, budget, e, n, v.Tree(), v.Journal(), want, at)
			}
		}
	}
	for _, o := range wrongOps() {
		v, _ := convoy.Mount(s, false, 10, "")
		if e, n := v.Work(s, []api.Op{goes, o, goes}, 1000); e != api.ErrScript || n != 1 || !leave(v).equal(left{s, ""}) {
			t.Errorf("Work with %+v = %d, %d", o, e, n)
		}
	}
}

// fullJobs have an operation with the number 2 for which there is no space, nor if 5 more are there, but if 10 are.
func fullJobs() []job {
	s := []api.Entry{sized("a", 1, 10), sized("b", 2, 20)}
	chmod := api.Op{Kind: api.Chmod, Path: "a", Mode: 1}
	write := api.Op{Kind: api.Write, Path: "c", Id: 3, Size: 10}
	unlink := api.Op{Kind: api.Unlink, Path: "b"}
	return []job{
		{"write", s, false, 30, []api.Op{chmod, {Kind: api.Mkdir, Path: "d"}, write, unlink}},
		{"write at last", s, false, 30, []api.Op{chmod, chmod, write}},
		{"copy", s, false, 30, []api.Op{chmod, {Kind: api.Chmod, Path: "a"}, {Kind: api.Copy, Path: "a", To: "~1"}, unlink}},
		{"what a file leaves is not enough", s, false, 30, []api.Op{unlink, {Kind: api.Write, Path: "b", Id: 2, Size: 20}, write, {Kind: api.Unlink, Path: "c"}}},
	}
}

func TestWorkFull(t *testing.T) {
	for _, j := range fullJobs() {
		way, _ := j.way()
		v := j.take(t, j.start())
		for range 3 {
			if e, n := v.Work(j.s, j.l, 1000); e != api.ErrFull || n != 2 || !slices.Equal(v.Tree(), way[2]) {
				t.Fatalf("%s: Work = %d, %d, %+v", j.name, e, n, v.Tree())
			}
		}
		at := leave(v)
		if e, n := v.Work(j.s, j.l, 0); e != api.ErrStop || n != 0 || !leave(v).equal(at) {
			t.Errorf("%s: without budget: %d, %d, %+v", j.name, e, n, leave(v))
		}
		less := j
		less.space += 5
		if e, n := less.take(t, at).Work(j.s, j.l, 1000); e != api.ErrFull || n != 2 {
			t.Errorf("%s: with too little more: %d, %d", j.name, e, n)
		}
		more := j
		more.space += 10
		w := more.take(t, at)
		whole, _ := more.way()
		if e, n := w.Work(j.s, j.l, 1000); e != api.OK || n != len(j.l) || !slices.Equal(w.Tree(), whole[n]) {
			t.Errorf("%s: with more: %d, %d, %+v", j.name, e, n, w.Tree())
		}
	}
}

// Wherever it is left ahead of the operation that doesn't go, it is told of in the end, and with more space there is none.
func TestWorkFullTakenUp(t *testing.T) {
	for _, j := range fullJobs() {
		more := j
		more.space += 10
		whole, _ := more.way()
		all := j.stops(t)
		for spent, at := range all {
			for budget := range len(all) {
				v := j.take(t, at)
				e, n := v.Work(j.s, j.l, budget)
				stop := e == api.ErrStop && n == 0 && spent+budget < len(all)
				if !stop && (e != api.ErrFull || n != 2 || budget == 0) {
					t.Fatalf("%s: left behind %d, budget %d: Work = %d, %d, %+v", j.name, spent, budget, e, n, leave(v))
				}
			}
			w := more.take(t, at)
			if e, n := w.Work(j.s, j.l, 1000); e != api.OK || n != len(j.l) || !slices.Equal(w.Tree(), whole[n]) {
				t.Errorf("%s: left behind %d, with more: %d, %d, %+v", j.name, spent, e, n, w.Tree())
			}
		}
	}
}

// likelyJob is a script that goes, on a volume that may have too little space for it.
func likelyJob(r *rand.Rand) job {
	s := randomTree(r)
	e, _ := convoy.Check(s, true)
	j := job{name: "random", s: s, fold: e == api.OK && r.Intn(3) > 0, space: 1 << 40}
	m := newModel(j.s, j.fold, j.space)
	for range r.Intn(20) {
		o := likelyOp(r, m.tree())
		if m.do(o) == api.OK {
			j.l = append(j.l, o)
			if o.Kind == api.Chmod && r.Intn(2) == 0 {
				j.l = append(j.l, o)
			}
		}
	}
	j.space = sizesOf(j.s) + r.Intn(100)
	return j
}

// Stopped at random and taken up until it is done or doesn't go on, now and then on the same volume.
func TestWorkAgainstTheModel(t *testing.T) {
	r := rand.New(rand.NewSource(21))
	seen := map[api.Errno]int{}
	for range 2000 {
		j := likelyJob(r)
		way, want := j.way()
		seen[want]++
		number := len(way) - 1
		v, last := j.take(t, j.start()), 0
		for calls := 0; ; calls++ {
			e, n := v.Work(j.s, j.l, r.Intn(6))
			if last = further(way, last, v.Tree()); last < 0 || calls > 1000 {
				t.Fatalf("from %+v by %+v: Work = %d, %d, %+v", j.s, j.l, e, n, v.Tree())
			}
			if e == api.ErrStop && n == 0 {
				if r.Intn(3) > 0 {
					v = j.take(t, leave(v))
				}
				continue
			}
			if e != want || n != number || !slices.Equal(v.Tree(), way[number]) {
				t.Fatalf("from %+v by %+v in %d: Work = %d, %d, %+v, want %d, %d", j.s, j.l, j.space, e, n, v.Tree(), want, number)
			}
			break
		}
	}
	if seen[api.OK] < 200 || seen[api.ErrFull] < 200 || len(seen) != 2 {
		t.Errorf("errors: %v", seen)
	}
}

func TestWorkOfPlans(t *testing.T) {
	r := rand.New(rand.NewSource(22))
	for range 500 {
		s, u := randomTree(r), randomTree(r)
		l := planned(t, s, u, false, 1, 2, 3, 4, 5, 6)
		_, need, _, _ := convoy.Try(s, false, l)
		j := job{name: "plan", s: s, space: need, l: l}
		v := j.take(t, j.start())
		if e, n := v.Work(s, l, 100*(len(l)+1)); e != api.OK || n != len(l) || !slices.Equal(v.Tree(), u) {
			t.Fatalf("from %+v to %+v: Work = %d, %d, %+v", s, u, e, n, v.Tree())
		}
	}
}

// A journal that is not one of the script is left alone, and so is the tree, where that can be seen.
func TestWorkWithAnotherJournal(t *testing.T) {
	j := job{name: "another", s: []api.Entry{file("a", 1)}, space: 10, l: []api.Op{{Kind: api.Chmod, Path: "a", Mode: 1}, {Kind: api.Mkdir, Path: "d"}}}
	all := j.stops(t)
	end := all[len(all)-1]
	for _, at := range []left{
		{j.s, "x"}, {j.s, "\x00"}, {j.s, "\x00\x01\x02\x03"}, {j.s, "ok"}, {j.s, end.journal}, {j.s, end.journal + end.journal}, {end.tree, end.journal + end.journal[:1]},
		{end.tree, end.journal[:1]}, {[]api.Entry{file("b", 1)}, end.journal}, {nil, end.journal}, {nil, end.journal[:1]}, {nil, "x"}, {end.tree, end.journal + "x"}, {end.tree, "x" + end.journal[1:]},
		{j.s, string(make([]byte, 1<<20))},
	} {
		v := j.take(t, at)
		if e, n := v.Work(j.s, j.l, 1000); e != api.ErrForm && e != api.ErrSource || n != 0 || !leave(v).equal(at) {
			t.Errorf("%+v: Work = %d, %d, %+v", at, e, n, leave(v))
		}
		// The errors of the tree and the script are named ahead of all that has to do with the journal.
		if e, n := v.Work([]api.Entry{{}}, j.l, 1000); e != api.ErrEntry || n != 0 {
			t.Errorf("%+v: no tree: %d, %d", at, e, n)
		}
		if e, n := v.Work(j.s, []api.Op{j.l[0], {}}, 1000); e != api.ErrScript || n != 1 {
			t.Errorf("%+v: no script: %d, %d", at, e, n)
		}
	}
}
