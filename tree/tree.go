// Package tree: files, and changes of them: see DOC.md.
package tree

import (
	"shunt/api"
	"shunt/fileset"
)

// Apply applies edits to files (P4).
func Apply(files []api.File, edits []api.Edit) ([]api.File, api.Errno) {
	set, ok := fileset.From(files)
	if !ok || !fileset.EditsMayBe(edits) {
		return nil, api.ErrChange
	}
	if !set.Apply(fileset.CopyEdits(edits)) {
		return nil, api.ErrNone
	}
	return set.List(), api.OK
}
