package volumes

import (
	"slices"

	"convoy/api"
	"convoy/paths"
	"convoy/scripts"
	"convoy/trees"
)

// Do does an operation, or tells the first error that applies and changes nothing.
func (v *Volume) Do(o api.Op) api.Errno {
	if !scripts.IsOp(o) {
		return api.ErrScript
	}
	next, e := v.after(o)
	if e == api.OK {
		v.entries = next
	}
	return e
}

// after gives the entries as they are behind an operation.
func (v *Volume) after(o api.Op) ([]api.Entry, api.Errno) {
	switch o.Kind {
	case api.Mkdir:
		return v.mkdir(o)
	case api.Rmdir:
		return v.rmdir(o)
	case api.Unlink:
		return v.unlink(o)
	case api.Write:
		return v.write(o)
	case api.Copy:
		return v.copy(o)
	case api.Rename:
		return v.rename(o)
	}
	return v.chmod(o)
}

func (v *Volume) mkdir(o api.Op) ([]api.Entry, api.Errno) {
	path, e := v.free(o.Path)
	if e != api.OK {
		return nil, e
	}
	return v.with(api.Entry{Path: path, Dir: true, Mode: o.Mode}), api.OK
}

func (v *Volume) rmdir(o api.Op) ([]api.Entry, api.Errno) {
	i := v.find(o.Path)
	switch {
	case i < 0:
		return nil, api.ErrNone
	case !v.entries[i].Dir:
		return nil, api.ErrKind
	case i+1 < len(v.entries) && paths.IsBelow(v.entries[i+1].Path, v.entries[i].Path, false):
		// What is in a directory stands right behind it.
		return nil, api.ErrBusy
	}
	return v.without(i), api.OK
}

func (v *Volume) unlink(o api.Op) ([]api.Entry, api.Errno) {
	i, e := v.file(o.Path)
	if e != api.OK {
		return nil, e
	}
	return v.without(i), api.OK
}

func (v *Volume) write(o api.Op) ([]api.Entry, api.Errno) {
	path, e := v.free(o.Path)
	if e != api.OK {
		return nil, e
	}
	made := api.Entry{Path: path, Id: o.Id, Size: o.Size, Mode: o.Mode}
	if trees.HasOtherSize(v.entries, made) {
		return nil, api.ErrSize
	}
	return v.filled(made)
}

func (v *Volume) copy(o api.Op) ([]api.Entry, api.Errno) {
	i, e := v.file(o.Path)
	if e != api.OK {
		return nil, e
	}
	path, e := v.free(o.To)
	if e != api.OK {
		return nil, e
	}
	return v.filled(api.Entry{Path: path, Id: v.entries[i].Id, Size: v.entries[i].Size, Mode: o.Mode})
}

func (v *Volume) rename(o api.Op) ([]api.Entry, api.Errno) {
	i := v.find(o.Path)
	if i < 0 {
		return nil, api.ErrNone
	}
	if paths.IsBelow(o.To, o.Path, v.fold) {
		return nil, api.ErrInside
	}
	if j := v.find(o.To); j >= 0 && j != i {
		return nil, api.ErrExist
	}
	to, e := v.place(o.To)
	if e != api.OK {
		return nil, e
	}
	next := v.moved(v.entries[i].Path, to)
	for _, entry := range next {
		if !trees.MayHold(entry) {
			return nil, api.ErrName
		}
	}
	return next, api.OK
}

func (v *Volume) chmod(o api.Op) ([]api.Entry, api.Errno) {
	i := v.find(o.Path)
	if i < 0 {
		return nil, api.ErrNone
	}
	next := slices.Clone(v.entries)
	next[i].Mode = o.Mode
	return next, api.OK
}

// file gives the number of the file that path is of.
func (v *Volume) file(path string) (int, api.Errno) {
	i := v.find(path)
	switch {
	case i < 0:
		return 0, api.ErrNone
	case v.entries[i].Dir:
		return 0, api.ErrKind
	}
	return i, api.OK
}

// free gives the path under which a new thing told as path would stand.
func (v *Volume) free(path string) (string, api.Errno) {
	if v.find(path) >= 0 {
		return "", api.ErrExist
	}
	place, e := v.place(path)
	if e == api.OK && len(v.entries) >= trees.MaxHeld {
		return "", api.ErrMany
	}
	return place, e
}

// filled gives the entries with one file more, if there is space for it.
func (v *Volume) filled(made api.Entry) ([]api.Entry, api.Errno) {
	if made.Size > v.space-sizes(v.entries) {
		return nil, api.ErrFull
	}
	return v.with(made), api.OK
}

func (v *Volume) with(made api.Entry) []api.Entry {
	i, _ := slices.BinarySearchFunc(v.entries, made, byPath)
	return slices.Concat(v.entries[:i], []api.Entry{made}, v.entries[i:])
}

func (v *Volume) without(i int) []api.Entry {
	return slices.Concat(v.entries[:i], v.entries[i+1:])
}

// moved gives the entries with all that is at from or below it at to instead; both are paths as they stand here.
func (v *Volume) moved(from, to string) []api.Entry {
	next := slices.Clone(v.entries)
	for i, e := range next {
		if e.Path == from || paths.IsBelow(e.Path, from, false) {
			next[i].Path = to + e.Path[len(from):]
		}
	}
	slices.SortFunc(next, byPath)
	return next
}
