package fileset_test

import (
	"slices"
	"testing"

	"shunt/api"
	"shunt/fileset"
)

func TestApplyIsAllOrNothing(t *testing.T) {
	files := []api.File{{Path: "a", Blob: "1"}, {Path: "b", Blob: "1"}}
	set, ok := fileset.From(files)
	if !ok {
		t.Fatalf("From(%v) refuses files that may be", files)
	}
	if set.Apply([]api.Edit{{Path: "a", Old: "1", New: ""}, {Path: "c", Old: "", New: "1"}, {Path: "b", Old: "2", New: "3"}}) {
		t.Errorf("edits apply though b is not 2")
	}
	if got := set.List(); !slices.Equal(got, files) {
		t.Errorf("edits that do not apply have made %v of %v", got, files)
	}
}

func TestListsShareNothing(t *testing.T) {
	set, _ := fileset.From([]api.File{{Path: "a", Blob: "1"}})
	set.List()[0] = api.File{Path: "w", Blob: "w"}
	if got := set.List(); !slices.Equal(got, []api.File{{Path: "a", Blob: "1"}}) {
		t.Errorf("writing into a list has made %v of the set", got)
	}
}
