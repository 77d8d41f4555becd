package convoy_test

import (
	"math/rand"
	"slices"
	"strings"

	"convoy/api"
)

// node is a second, plainer volume to hold the first against: things with names in things with names.
type node struct {
	entry  api.Entry // without its Path
	name   string
	within *node
	kids   []*node
}

type model struct {
	top   *node
	fold  bool
	space int
}

func newModel(l []api.Entry, fold bool, space int) *model {
	m := &model{top: &node{entry: api.Entry{Dir: true}}, fold: fold, space: space}
	for _, e := range l {
		parent, name := m.split(e.Path)
		e.Path = ""
		parent.kids = append(parent.kids, &node{entry: e, name: name, within: parent})
	}
	return m
}

func (m *model) find(path string) *node {
	at := m.top
	for _, name := range strings.Split(path, "/") {
		if at = m.kid(at, name); at == nil {
			return nil
		}
	}
	return at
}

func (m *model) kid(n *node, name string) *node {
	for _, k := range n.kids {
		if k.name == name || m.fold && strings.ToLower(k.name) == strings.ToLower(name) {
			return k
		}
	}
	return nil
}

// split gives what the path's last name would stand in, if it is there, and the last name.
func (m *model) split(path string) (*node, string) {
	names := strings.Split(path, "/")
	name := names[len(names)-1]
	if len(names) == 1 {
		return m.top, name
	}
	return m.find(strings.Join(names[:len(names)-1], "/")), name
}

func (m *model) tree() []api.Entry {
	var l []api.Entry
	m.top.each("", func(path string, n *node) {
		e := n.entry
		e.Path = path
		l = append(l, e)
	})
	slices.SortFunc(l, func(a, b api.Entry) int { return compareNames(a.Path, b.Path) })
	return l
}

func (n *node) each(above string, do func(path string, n *node)) {
	for _, k := range n.kids {
		do(above+k.name, k)
		k.each(above+k.name+"/", do)
	}
}

func (n *node) height() int {
	h := 0
	for _, k := range n.kids {
		h = max(h, k.height())
	}
	return h + 1
}

func (n *node) depth() int {
	if n.within == nil {
		return 0
	}
	return n.within.depth() + 1
}

func (n *node) leave() {
	n.within.kids = slices.DeleteFunc(n.within.kids, func(k *node) bool { return k == n })
}

func (m *model) sum() int {
	sum := 0
	for _, e := range m.tree() {
		sum += e.Size
	}
	return sum
}

func (m *model) do(o api.Op) api.Errno {
	n := m.find(o.Path)
	switch o.Kind {
	case api.Mkdir:
		return m.add(o.Path, api.Entry{Dir: true, Mode: o.Mode}, false)
	case api.Write:
		return m.add(o.Path, api.Entry{Id: o.Id, Size: o.Size, Mode: o.Mode}, true)
	}
	if n == nil {
		return api.ErrNone
	}
	switch o.Kind {
	case api.Chmod:
		n.entry.Mode = o.Mode
		return api.OK
	case api.Rename:
		return m.rename(n, o)
	}
	if n.entry.Dir != (o.Kind == api.Rmdir) {
		return api.ErrKind
	}
	if o.Kind == api.Copy {
		return m.add(o.To, api.Entry{Id: n.entry.Id, Size: n.entry.Size, Mode: o.Mode}, true)
	}
	if len(n.kids) > 0 {
		return api.ErrBusy
	}
	n.leave()
	return api.OK
}

func (m *model) add(path string, e api.Entry, file bool) api.Errno {
	parent, name := m.split(path)
	all := m.tree()
	switch {
	case m.find(path) != nil:
		return api.ErrExist
	case parent == nil || !parent.entry.Dir:
		return api.ErrParent
	case len(all) >= 120:
		return api.ErrMany
	case file && slices.ContainsFunc(all, func(a api.Entry) bool { return a.Id == e.Id && a.Size != e.Size }):
		return api.ErrSize
	case file && m.sum()+e.Size > m.space:
		return api.ErrFull
	}
	parent.kids = append(parent.kids, &node{entry: e, name: name, within: parent})
	return api.OK
}

func (m *model) rename(n *node, o api.Op) api.Errno {
	there := m.find(o.To)
	parent, name := m.split(o.To)
	low, top := strings.Split(o.To, "/"), strings.Split(o.Path, "/")
	if m.fold {
		low, top = strings.Split(strings.ToLower(o.To), "/"), strings.Split(strings.ToLower(o.Path), "/")
	}
	switch {
	case len(low) > len(top) && slices.Equal(low[:len(top)], top):
		return api.ErrInside
	case there != nil && there != n:
		return api.ErrExist
	case parent == nil || !parent.entry.Dir:
		return api.ErrParent
	case n.entry.Dir && name[0] == '~', parent.depth()+n.height() > 6:
		return api.ErrName
	}
	n.leave()
	n.name, n.within = name, parent
	parent.kids = append(parent.kids, n)
	return api.OK
}

// likelyOp is an operation of a script that has to do with what is in l, often enough.
func likelyOp(r *rand.Rand, l []api.Entry) api.Op {
	o := api.Op{Kind: 1 + r.Intn(7), Path: likelyPath(r, l)}
	for o.Kind == api.Mkdir && o.Path[0] == '~' {
		o.Path = likelyPath(r, l)
	}
	switch o.Kind {
	case api.Copy, api.Rename:
		o.To = likelyPath(r, l)
	case api.Write:
		o.Id = 1 + r.Intn(6)
		o.Size = o.Id * 10
		if r.Intn(5) == 0 {
			o.Size = r.Intn(50)
		}
	}
	switch o.Kind {
	case api.Mkdir, api.Write, api.Copy, api.Chmod:
		o.Mode = r.Intn(3)
	}
	return o
}

func likelyPath(r *rand.Rand, l []api.Entry) string {
	name := []string{"a", "b", "c", "a.b", "A", "B"}[r.Intn(6)]
	switch {
	case r.Intn(8) == 0:
		return []string{"~0", "~1", "~01"}[r.Intn(3)]
	case len(l) == 0 || r.Intn(6) == 0:
		return name
	}
	path := l[r.Intn(len(l))].Path
	if r.Intn(4) == 0 {
		path = otherCase(path)
	}
	if path[0] != '~' && strings.Count(path, "/") < 5 && r.Intn(2) == 0 {
		path += "/" + name
	}
	return path
}

func otherCase(path string) string {
	if lower := strings.ToLower(path); lower != path {
		return lower
	}
	return strings.ToUpper(path)
}
