// Package convoy: from one tree of files to another, by plans that lose nothing and can be taken up again: see DOC.md.
package convoy

import (
	"convoy/api"
	"convoy/plans"
	"convoy/scripts"
	"convoy/trees"
	"convoy/volumes"
)

// Volume holds a tree and a journal.
type Volume struct {
	held volumes.Volume
}

// Check looks at a tree (P3).
func Check(l []api.Entry, fold bool) (api.Errno, int) { return trees.Check(l, fold) }

// Diff tells how two trees differ (P4).
func Diff(s []api.Entry, t []api.Entry) ([]api.Change, api.Errno) { return trees.Diff(s, t) }

// Try tells what comes of a script, and how much space it needs (P5).
func Try(s []api.Entry, fold bool, l []api.Op) ([]api.Entry, int, api.Errno, int) {
	return volumes.Try(s, fold, l)
}

// Plan makes a script that turns a tree into another (P8).
func Plan(s []api.Entry, t []api.Entry, fold bool, store []int) ([]api.Op, api.Errno, int) {
	return plans.Plan(s, t, fold, store)
}

// Encode writes a script as bytes (P6).
func Encode(l []api.Op) (string, api.Errno) { return scripts.Encode(l) }

// Decode reads a script's bytes (P6).
func Decode(s string) ([]api.Op, api.Errno, int) {
	var l []api.Op
	e, at := caught(func() { l = scripts.Decode(s) })
	return l, e, at
}

// Print writes a script as text (P7).
func Print(l []api.Op) (string, api.Errno) { return scripts.Print(l) }

// Parse reads a script's text (P7).
func Parse(s string) ([]api.Op, api.Errno, int) {
	var l []api.Op
	e, at := caught(func() { l = scripts.Parse(s) })
	return l, e, at
}

// Mount makes a volume (P9).
func Mount(l []api.Entry, fold bool, space int, journal string) (*Volume, api.Errno) {
	held, e := volumes.Mount(l, fold, space, journal)
	if e != api.OK {
		return nil, e
	}
	return &Volume{held}, api.OK
}

// Do does an operation (P9).
func (v *Volume) Do(o api.Op) api.Errno { return v.held.Do(o) }

// Tree tells the entries (P9).
func (v *Volume) Tree() []api.Entry { return v.held.Tree() }

// Journal tells the journal's bytes (P9).
func (v *Volume) Journal() string { return v.held.Journal() }

// Work carries a script out (P10).
func (v *Volume) Work(s []api.Entry, l []api.Op, budget int) (api.Errno, int) {
	var told api.Errno
	var n int
	if e, at := caught(func() { told, n = v.held.Work(s, l, budget) }); e != api.OK {
		return e, at
	}
	return told, n
}

// caught turns the panic that wrong bytes and lines give up with into an answer.
func caught(read func()) (e api.Errno, at int) {
	defer func() {
		switch r := recover().(type) {
		case nil:
		case scripts.Fault:
			e, at = r.Errno, r.Place
		default:
			// No call may panic (P1), and what gave up could not be read, whatever it gave up with.
			e, at = api.ErrForm, 0
		}
	}()
	read()
	return api.OK, 0
}
