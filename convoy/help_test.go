package convoy_test

import (
	"fmt"
	"math/rand"
	"slices"
	"strings"

	"convoy/api"
)

func dir(path string) api.Entry { return api.Entry{Path: path, Dir: true} }

// file has the Size 1, as in the document's examples.
func file(path string, id int) api.Entry { return api.Entry{Path: path, Id: id, Size: 1} }

func files(n int) []api.Entry {
	var l []api.Entry
	for i := range n {
		l = append(l, file(fmt.Sprintf("f%03d", i), 1))
	}
	return l
}

func compareNames(a, b string) int {
	return slices.Compare(strings.Split(a, "/"), strings.Split(b, "/"))
}

// randomTree is a tree whatever is drawn, with few names and few Ids, so that two of them have much in common.
func randomTree(r *rand.Rand) []api.Entry {
	dirs := []string{""}
	byPath := map[string]api.Entry{}
	for range r.Intn(15) {
		path := dirs[r.Intn(len(dirs))] + []string{"a", "b", "c", "a.b", "A"}[r.Intn(5)]
		if _, there := byPath[path]; there {
			continue
		}
		if r.Intn(3) == 0 && strings.Count(path, "/") < api.MaxDepth-1 {
			byPath[path] = api.Entry{Path: path, Dir: true, Mode: r.Intn(2)}
			dirs = append(dirs, path+"/")
		} else {
			id := 1 + r.Intn(6)
			byPath[path] = api.Entry{Path: path, Id: id, Size: id * 10, Mode: r.Intn(2)}
		}
	}
	var l []api.Entry
	for _, e := range byPath {
		l = append(l, e)
	}
	slices.SortFunc(l, func(a, b api.Entry) int { return compareNames(a.Path, b.Path) })
	return l
}

// sampleOps is every kind of operation with every choice of the values at the edges.
func sampleOps() []api.Op {
	plain := []string{"a", "-", "abcdefgh", "a/b.c/d", "12345678/12345678/12345678/12345678/12345678/12345678"}
	all := append([]string{"~0", "~1234567"}, plain...)
	modes := []int{0, 1, 255, 256, 511}
	var l []api.Op
	for _, p := range plain {
		for _, m := range modes {
			l = append(l, api.Op{Kind: api.Mkdir, Path: p, Mode: m})
		}
	}
	for _, p := range all {
		l = append(l, api.Op{Kind: api.Rmdir, Path: p}, api.Op{Kind: api.Unlink, Path: p})
		for _, m := range modes {
			l = append(l, api.Op{Kind: api.Chmod, Path: p, Mode: m})
			for _, id := range []int{1, 10, 255, 256, 9999} {
				for _, size := range []int{0, 1, 100} {
					l = append(l, api.Op{Kind: api.Write, Path: p, Id: id, Size: size, Mode: m})
				}
			}
			for _, to := range all {
				l = append(l, api.Op{Kind: api.Copy, Path: p, To: to, Mode: m})
			}
		}
		for _, to := range all {
			l = append(l, api.Op{Kind: api.Rename, Path: p, To: to})
		}
	}
	return l
}

// wrongOps may stand in no script: each has one thing that may not be.
func wrongOps() []api.Op {
	l := []api.Op{
		{}, {Kind: 0, Path: "a"}, {Kind: 8, Path: "a"}, {Kind: -1, Path: "a"}, {Kind: 1 << 40, Path: "a"}, {Kind: -1 << 63, Path: "a"}, {Kind: 256 + api.Rmdir, Path: "a"},
		{Kind: api.Mkdir, Path: "~1"}, {Kind: api.Mkdir, Path: "a", To: "b"}, {Kind: api.Mkdir, Path: "a", Id: 1}, {Kind: api.Mkdir, Path: "a", Size: 1},
		{Kind: api.Rmdir, Path: "a", To: "b"}, {Kind: api.Rmdir, Path: "a", Id: 1}, {Kind: api.Rmdir, Path: "a", Size: 1}, {Kind: api.Rmdir, Path: "a", Mode: 1},
		{Kind: api.Unlink, Path: "a", To: "b"}, {Kind: api.Unlink, Path: "a", Id: 1}, {Kind: api.Unlink, Path: "a", Size: 1}, {Kind: api.Unlink, Path: "a", Mode: 1},
		{Kind: api.Write, Path: "a", Id: 1, To: "b"}, {Kind: api.Write, Path: "a"}, {Kind: api.Write, Path: "a", Id: -1}, {Kind: api.Write, Path: "a", Id: 10000}, {Kind: api.Write, Path: "a", Id: 65536 + 1},
		{Kind: api.Write, Path: "a", Id: 1, Size: 101}, {Kind: api.Write, Path: "a", Id: 1, Size: -1}, {Kind: api.Write, Path: "a", Id: 1, Size: 256},
		{Kind: api.Copy, Path: "a"}, {Kind: api.Copy, Path: "a", To: "b", Id: 1}, {Kind: api.Copy, Path: "a", To: "b", Size: 1}, {Kind: api.Copy, Path: "a", To: "b/"}, {Kind: api.Copy, Path: "a", To: "~x"},
		{Kind: api.Rename, Path: "a"}, {Kind: api.Rename, Path: "a", To: "b", Id: 1}, {Kind: api.Rename, Path: "a", To: "b", Size: 1}, {Kind: api.Rename, Path: "a", To: "b", Mode: 1}, {Kind: api.Rename, Path: "a", To: "a/~1"},
		{Kind: api.Chmod, Path: "a", To: "b"}, {Kind: api.Chmod, Path: "a", Id: 1}, {Kind: api.Chmod, Path: "a", Size: 1},
	}
	for _, o := range []api.Op{{Kind: api.Mkdir, Path: "a"}, {Kind: api.Write, Path: "a", Id: 1}, {Kind: api.Copy, Path: "a", To: "b"}, {Kind: api.Chmod, Path: "a"}} {
		for _, m := range []int{-1, 512, 65536, -1 << 63} {
			o.Mode = m
			l = append(l, o)
		}
	}
	for kind := api.Mkdir; kind <= api.Chmod; kind++ {
		for _, p := range []string{"", ".", "..", "/", "a/", "/a", "a//b", "a b", "a\n", "123456789", "a/b/c/d/e/f/g", "~", "~a", "~12345678", "~1/a", "a/~1", "\xff"} {
			o := api.Op{Kind: kind, Path: p}
			if kind == api.Write {
				o.Id = 1
			}
			if kind == api.Copy || kind == api.Rename {
				o.To = "b"
			}
			l = append(l, o)
		}
	}
	return l
}
