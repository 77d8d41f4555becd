package scripts

import "convoy/api"

// reader gives the fields of an operation one by one; it panics with a Fault at one that may not be.
type reader interface {
	path(spare bool) string
	number(low, high int) int
}

// writer takes the fields of an operation one by one; high is the most that a number may be.
type writer interface {
	path(s string)
	number(n, high int)
}

// readOp and writeOp go through the same fields in the same order, so that what is written can be read.
func readOp(r reader, kind int) api.Op {
	n := needs[kind]
	o := api.Op{Kind: kind, Path: r.path(n.spare)}
	if n.to {
		o.To = r.path(true)
	}
	if n.file {
		o.Id = r.number(1, api.MaxId)
		o.Size = r.number(0, api.MaxSize)
	}
	if n.mode {
		o.Mode = r.number(0, api.MaxMode)
	}
	return o
}

func writeOp(w writer, o api.Op) {
	n := needs[o.Kind]
	w.path(o.Path)
	if n.to {
		w.path(o.To)
	}
	if n.file {
		w.number(o.Id, api.MaxId)
		w.number(o.Size, api.MaxSize)
	}
	if n.mode {
		w.number(o.Mode, api.MaxMode)
	}
}
