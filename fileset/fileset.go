// Package fileset: what files and edits may be, and files as a map from their paths.
package fileset

import (
	"maps"
	"slices"
	"strings"

	"shunt/api"
)

// Set is files by their paths. A path that is not in it reads as the empty
// File, whose Blob "" stands for no file: so Old needs no case of its own.
type Set map[string]api.File

// From makes a set of files, if they may be (P3). It shares no memory with them.
func From(files []api.File) (Set, bool) {
	set := make(Set, len(files))
	for _, f := range files {
		_, twice := set[f.Path]
		if twice || !fileMayBe(f) {
			return nil, false
		}
		set.put(api.File{Path: strings.Clone(f.Path), Blob: strings.Clone(f.Blob)})
	}
	return set, true
}

// CopyEdits makes edits that share no memory with these, their texts neither: a
// short text that was cut out of a long one would keep all of that.
func CopyEdits(edits []api.Edit) []api.Edit {
	list := make([]api.Edit, len(edits))
	for i, e := range edits {
		list[i] = api.Edit{Path: strings.Clone(e.Path), Old: strings.Clone(e.Old), New: strings.Clone(e.New)}
	}
	return list
}

// EditsMayBe tells whether edits may be (P3).
func EditsMayBe(edits []api.Edit) bool {
	if len(edits) < 1 || len(edits) > api.MaxEdits {
		return false
	}
	for i, e := range edits {
		if !editMayBe(e) || namesPath(edits[:i], e.Path) {
			return false
		}
	}
	return true
}

// Apply changes the set by edits that may be, and tells whether they apply.
// If one of them does not, none is done.
func (s Set) Apply(edits []api.Edit) bool {
	for _, e := range edits {
		if s[e.Path].Blob != e.Old {
			return false
		}
	}
	for _, e := range edits {
		s.put(api.File{Path: e.Path, Blob: e.New})
	}
	return true
}

// List tells the files, by rising paths.
func (s Set) List() []api.File {
	list := make([]api.File, 0, len(s))
	for _, f := range s {
		list = append(list, f)
	}
	slices.SortFunc(list, func(a, b api.File) int { return strings.Compare(a.Path, b.Path) })
	return list
}

// Clone makes a set of the same files, which shares nothing with this one.
func (s Set) Clone() Set {
	return maps.Clone(s)
}

func (s Set) put(f api.File) {
	if f.Blob == "" {
		delete(s, f.Path)
		return
	}
	s[f.Path] = f
}

func fileMayBe(f api.File) bool {
	return isFilled(f.Path) && isFilled(f.Blob)
}

func editMayBe(e api.Edit) bool {
	return isFilled(e.Path) && isText(e.Old) && isText(e.New) && e.Old != e.New
}

func namesPath(edits []api.Edit, path string) bool {
	return slices.ContainsFunc(edits, func(e api.Edit) bool { return e.Path == path })
}

func isText(s string) bool {
	return len(s) <= api.MaxText
}

func isFilled(s string) bool {
	return s != "" && isText(s)
}
