// Package scripts: which lists of operations are scripts, and scripts as bytes and as text.
package scripts

import (
	"convoy/api"
	"convoy/paths"
)

// Fault is what wrong bytes and wrong lines give up with, by panic.
type Fault struct {
	Errno api.Errno
	Place int
}

// need says what a kind of operation takes; all take a Path ahead of the rest.
type need struct {
	word  string
	spare bool // Path may be a spare name
	to    bool
	file  bool // Id and Size
	mode  bool
}

var needs = [...]need{
	api.Mkdir:  {word: "mkdir", mode: true},
	api.Rmdir:  {word: "rmdir", spare: true},
	api.Unlink: {word: "unlink", spare: true},
	api.Write:  {word: "write", spare: true, file: true, mode: true},
	api.Copy:   {word: "copy", spare: true, to: true, mode: true},
	api.Rename: {word: "rename", spare: true, to: true},
	api.Chmod:  {word: "chmod", spare: true, mode: true},
}

// FirstWrong gives the number of the first operation by which l is no script (MaxOps, if it is one too many), and whether there is one.
func FirstWrong(l []api.Op) (int, bool) {
	for i, o := range l {
		if i == api.MaxOps || !IsOp(o) {
			return i, true
		}
	}
	return 0, false
}

func isScript(l []api.Op) bool {
	_, wrong := FirstWrong(l)
	return !wrong
}

// IsOp tells whether o may stand in a script.
func IsOp(o api.Op) bool {
	if !within(o.Kind, api.Mkdir, api.Chmod) {
		return false
	}
	n := needs[o.Kind]
	return isPlace(o.Path, n.spare) &&
		toFits(o.To, n.to) &&
		numberFits(o.Id, n.file, 1, api.MaxId) &&
		numberFits(o.Size, n.file, 0, api.MaxSize) &&
		numberFits(o.Mode, n.mode, 0, api.MaxMode)
}

func isPlace(s string, spare bool) bool {
	return paths.IsPath(s) || spare && paths.IsSpare(s)
}

func toFits(s string, needed bool) bool {
	if !needed {
		return s == ""
	}
	return isPlace(s, true)
}

func numberFits(n int, needed bool, low, high int) bool {
	if !needed {
		return n == 0
	}
	return within(n, low, high)
}

func within(n, low, high int) bool { return low <= n && n <= high }
