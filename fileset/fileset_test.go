package fileset_test

import (
	"slices"
	"testing"
	"unsafe"

	"shunt/api"
	"shunt/fileset"
)

func TestApplyIsAllOrNothing(t *testing.T) {
	files := []api.File{{Path: "a", Blob: "1"}, {Path: "b", Blob: "1"}}
	set, ok := fileset.From(files)
	if !ok {
		t.Fatalf("From(%v) refuses files that may be", files)
	}
	if set.Apply([]api.Edit{{Path: "a", Old: "1", New: ""}, {Path: "c", Old: "", New: "1"}, {Path: "b", Old: "2", New: "3"}}) {
		t.Errorf("edits apply though b is not 2")
	}
	if got := set.List(); !slices.Equal(got, files) {
		t.Errorf("edits that do not apply have made %v of %v", got, files)
	}
}

func TestListsShareNothing(t *testing.T) {
	set, _ := fileset.From([]api.File{{Path: "a", Blob: "1"}})
	set.List()[0] = api.File{Path: "w", Blob: "w"}
	if got := set.List(); !slices.Equal(got, []api.File{{Path: "a", Blob: "1"}}) {
		t.Errorf("writing into a list has made %v of the set", got)
	}
}

func TestCloneSharesNothing(t *testing.T) {
	files := []api.File{{Path: "a", Blob: "1"}, {Path: "b", Blob: "1"}}
	one, _ := fileset.From(files)
	two := one.Clone()
	one.Apply([]api.Edit{{Path: "a", Old: "1", New: "2"}})
	two.Apply([]api.Edit{{Path: "b", Old: "1", New: ""}})
	if got, want := one.List(), []api.File{{Path: "a", Blob: "2"}, {Path: "b", Blob: "1"}}; !slices.Equal(got, want) {
		t.Errorf("a set is %v behind edits of it and of its clone, want %v", got, want)
	}
	if got, want := two.List(), []api.File{{Path: "a", Blob: "1"}}; !slices.Equal(got, want) {
		t.Errorf("a clone is %v behind edits of it and of the set, want %v", got, want)
	}
}

func TestCopyEdits(t *testing.T) {
	bytes := []byte("PON")
	edits := []api.Edit{{Path: unsafe.String(&bytes[0], 1), Old: unsafe.String(&bytes[1], 1), New: unsafe.String(&bytes[2], 1)}, {Path: "q", New: "1"}}
	got := fileset.CopyEdits(edits)
	copy(bytes, "xyz")
	clear(edits)
	if want := []api.Edit{{Path: "P", Old: "O", New: "N"}, {Path: "q", New: "1"}}; !slices.Equal(got, want) {
		t.Errorf("a copy of edits has become %v, want %v", got, want)
	}
	if got := fileset.CopyEdits(nil); len(got) != 0 {
		t.Errorf("a copy of no edits is %v", got)
	}
}
