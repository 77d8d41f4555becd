package convoy_test

import (
	"math"
	"math/rand"
	"slices"
	"strings"
	"testing"

	"convoy/api"
	"convoy/convoy"
)

var (
	oddTexts   = []string{"", "a", "A", "a/b", "a.b", ".", "/", "~", "~1", "a/", "\x00", "\xff\xfe", "é", "12345678", "123456789", strings.Repeat("a/", 5) + "a", strings.Repeat("/", 300), strings.Repeat("a", 70000)}
	oddNumbers = []int{0, 1, 2, 5, 7, 8, 100, 101, 255, 256, 511, 512, 9999, 10000, 65536, -1, math.MaxInt, math.MinInt}
)

func oddEntry(r *rand.Rand) api.Entry {
	return api.Entry{Path: oddText(r), Dir: r.Intn(2) == 0, Id: oddNumber(r), Size: oddNumber(r), Mode: oddNumber(r)}
}

func oddOp(r *rand.Rand) api.Op {
	return api.Op{Kind: oddNumber(r), Path: oddText(r), To: oddText(r), Id: oddNumber(r), Size: oddNumber(r), Mode: oddNumber(r)}
}

func oddText(r *rand.Rand) string { return oddTexts[r.Intn(len(oddTexts))] }

func oddNumber(r *rand.Rand) int { return oddNumbers[r.Intn(len(oddNumbers))] }

func oddList[T any](r *rand.Rand, one func(*rand.Rand) T) []T {
	var l []T
	for range r.Intn(4) {
		l = append(l, one(r))
	}
	return l
}

// Calls that panicked would end the test; beside an error there is nothing but a place.
func TestOddTrees(t *testing.T) {
	r := rand.New(rand.NewSource(3))
	for range 5000 {
		s, u := oddList(r, oddEntry), oddList(r, oddEntry)
		e, at := convoy.Check(s, false)
		f, _ := convoy.Check(u, false)
		if at < 0 || at > len(s) || e == api.OK && at != 0 {
			t.Errorf("Check(%+v) = %d, %d", s, e, at)
		}
		changes, g := convoy.Diff(s, u)
		if (g == api.OK) != (e == api.OK && f == api.OK) || g != api.OK && (g != api.ErrEntry || len(changes) != 0) {
			t.Errorf("Diff(%+v, %+v) = %+v, %d", s, u, changes, g)
		}
		convoy.Check(u, true)
	}
}

func TestOddScripts(t *testing.T) {
	r := rand.New(rand.NewSource(4))
	for range 5000 {
		l := oddList(r, oddOp)
		s, e := convoy.Encode(l)
		p, f := convoy.Print(l)
		if e != f || e != api.OK && (e != api.ErrScript || s != "" || p != "") {
			t.Errorf("%+v: Encode = %q, %d, Print = %q, %d", l, s, e, p, f)
		}
	}
}

func TestOddTries(t *testing.T) {
	r := rand.New(rand.NewSource(6))
	for range 5000 {
		s, l, fold := oddList(r, oddEntry), oddList(r, oddOp), r.Intn(2) == 0
		e, _ := convoy.Check(s, fold)
		_, f := convoy.Encode(l)
		got, need, g, at := convoy.Try(s, fold, l)
		if g != api.OK && (len(got) != 0 || need != 0) || at < 0 || at > len(l) || g == api.OK && at != 0 {
			t.Errorf("Try(%+v, %+v) = %+v, %d, %d, %d", s, l, got, need, g, at)
		}
		if (g == api.ErrEntry) != (e != api.OK) || (g == api.ErrScript) != (e == api.OK && f != api.OK) {
			t.Errorf("Try(%+v, %+v): %d, Check %d, Encode %d", s, l, g, e, f)
		}
	}
}

func TestOddPlans(t *testing.T) {
	r := rand.New(rand.NewSource(17))
	for i := range 5000 {
		s, u, store, fold := oddList(r, oddEntry), oddList(r, oddEntry), oddList(r, oddNumber), r.Intn(2) == 0
		if i%2 == 0 {
			s, u = randomTree(r), randomTree(r)
		}
		e, _ := convoy.Check(s, fold)
		f, _ := convoy.Check(u, fold)
		got, g, at := convoy.Plan(s, u, fold, store)
		if g != api.OK && len(got) != 0 || g == api.OK && at != 0 {
			t.Errorf("Plan(%+v, %+v, %v) = %+v, %d, %d", s, u, store, got, g, at)
		}
		if (g == api.ErrEntry) != (e != api.OK || f != api.OK) || g == api.ErrEntry && (at == 0) != (e != api.OK) {
			t.Errorf("Plan(%+v, %+v): %d, %d, Check %d and %d", s, u, g, at, e, f)
		}
	}
}

func TestOddVolumes(t *testing.T) {
	r := rand.New(rand.NewSource(7))
	for range 5000 {
		l := oddList(r, oddEntry)
		v, e := convoy.Mount(l, r.Intn(2) == 0, oddNumber(r), oddText(r))
		if (v == nil) != (e != api.OK) {
			t.Fatalf("Mount(%+v) = %v, %d", l, v, e)
		}
		if v == nil {
			l = nil
			v = mount(t, l, false, 0)
		}
		o := oddOp(r)
		_, f := convoy.Encode([]api.Op{o})
		if g := v.Do(o); (g == api.ErrScript) != (f != api.OK) || g != api.OK && !slices.Equal(v.Tree(), l) {
			t.Errorf("Do(%+v) = %d, %+v, Encode %d", o, g, v.Tree(), f)
		}
	}
}

func TestOddWork(t *testing.T) {
	r := rand.New(rand.NewSource(23))
	for i := range 5000 {
		j := likelyJob(r)
		v, e := convoy.Mount(randomTree(r), false, api.MaxSpace, oddText(r))
		if i%2 == 0 {
			v, e = convoy.Mount(j.s, j.fold, j.space, strings.Repeat(oddText(r), r.Intn(3)))
		}
		if v == nil {
			t.Fatalf("Mount = %d", e)
		}
		if i%5 == 0 {
			j.s = oddList(r, oddEntry)
		}
		if i%7 == 0 {
			j.l = append(j.l, oddList(r, oddOp)...)
		}
		before := leave(v)
		j.fold = j.fold && i%2 == 0
		_, _, tried, at := convoy.Try(j.s, j.fold, j.l)
		got, n := v.Work(j.s, j.l, oddNumber(r))
		switch {
		case tried == api.ErrEntry && (got != api.ErrEntry || n != 0),
			tried != api.ErrEntry && tried != api.OK && (got != api.ErrScript || n != at),
			tried == api.OK && (got == api.ErrEntry || got == api.ErrScript),
			got != api.OK && got != api.ErrFull && got != api.ErrStop && !leave(v).equal(before):
			t.Errorf("Work(%+v, %+v) = %d, %d, Try %d, %d", j.s, j.l, got, n, tried, at)
		}
	}
}

func TestOddBytes(t *testing.T) {
	r := rand.New(rand.NewSource(5))
	for range 20000 {
		b := make([]byte, r.Intn(30))
		for i := range b {
			b[i] = "\x00\x01\x02\x03\x04\x05\x06\x07\x08a/~0 \n\xff"[r.Intn(16)]
		}
		if l, e, _ := convoy.Decode(string(b)); e != api.OK && len(l) != 0 {
			t.Errorf("Decode(%q) = %+v, %d", b, l, e)
		}
		if l, e, _ := convoy.Parse(string(b)); e != api.OK && len(l) != 0 {
			t.Errorf("Parse(%q) = %+v, %d", b, l, e)
		}
	}
}

func TestGreatArguments(t *testing.T) {
	great := strings.Repeat("\xff", 1<<20)
	wantDecode(t, great, api.ErrForm, 0)
	wantForm(t, great, 0)
	wantForm(t, strings.Repeat("\n", 1<<20), 0)
	wantForm(t, strings.Repeat(" ", 1<<20)+"\n", 0)
	wantForm(t, "mkdir a "+strings.Repeat("1", 1<<20)+"\n", 0)
	if e, at := convoy.Check(make([]api.Entry, 1<<20), true); e != api.ErrMany || at != 0 {
		t.Errorf("Check of many: %d, %d", e, at)
	}
	if s, e := convoy.Encode(make([]api.Op, 1<<20)); e != api.ErrScript || s != "" {
		t.Errorf("Encode of many: %d", e)
	}
	if l, need, e, at := convoy.Try(nil, true, make([]api.Op, 1<<20)); l != nil || need != 0 || e != api.ErrScript || at != 0 {
		t.Errorf("Try of many: %d, %d", e, at)
	}
	if l, e, at := convoy.Plan(make([]api.Entry, 1<<20), nil, true, nil); l != nil || e != api.ErrEntry || at != 0 {
		t.Errorf("Plan of many: %d, %d", e, at)
	}
	if l, e, at := convoy.Plan(nil, files(api.MaxEntries), true, make([]int, 1<<20)); l != nil || e != api.ErrStore || at != 1 {
		t.Errorf("Plan of a great store: %d, %d", e, at)
	}
	if e, n := mount(t, nil, true, 0).Work(nil, make([]api.Op, 1<<20), math.MaxInt); e != api.ErrScript || n != 0 {
		t.Errorf("Work of many: %d, %d", e, n)
	}
	if e, n := mount(t, nil, true, 0).Work(make([]api.Entry, 1<<20), nil, math.MaxInt); e != api.ErrEntry || n != 0 {
		t.Errorf("Work from many: %d, %d", e, n)
	}
	if v, e := convoy.Mount(make([]api.Entry, 1<<20), true, 0, great); v != nil || e != api.ErrEntry {
		t.Errorf("Mount of many: %d", e)
	}
}
