package shunt_test

import (
	"reflect"
	"slices"
	"testing"
	"unsafe"

	"shunt/api"
)

// TestNothingHandedInIsKept: lists and texts that are written into later change nothing, and are not written into.
func TestNothingHandedInIsKept(t *testing.T) {
	bytes := []byte("pathblobedit")
	path, blob, edit := unsafe.String(&bytes[0], 4), unsafe.String(&bytes[4], 4), unsafe.String(&bytes[8], 4)
	files := []api.File{{Path: path, Blob: blob}, {Path: "z", Blob: "spare"}}
	changes := []api.Edit{{Path: edit, Old: blob, New: path}, {Path: "z", New: "spare"}}
	files2, changes2 := slices.Clone(files), slices.Clone(changes)
	m := machine(t, plain, files[:1]...)
	want(t, "P6: Submit", m.Submit(1, 0, changes[:1]), api.OK)
	want(t, "P6: Submit", m.Submit(2, 0, changes[:1]), api.OK)
	want(t, "P6: Cancel", m.Cancel(1), api.OK)
	if !slices.Equal(files, files2) || !slices.Equal(changes, changes2) {
		t.Errorf("P2: what was handed in has become %v, %v", files, changes)
	}
	before := look(m)
	wanted := []api.File{{Path: "path", Blob: "blob"}}
	copy(bytes, "xxxxxxxxxxxx")
	clear(files)
	clear(changes)
	tip(t, m, wanted...)
	log(t, m, before.Log)
	want(t, "P13: Crash", m.Crash(), api.OK)
	want(t, "P13: Recover", m.Recover(), api.OK)
	tip(t, m, wanted...)
	queue(t, m, api.Waiting{ID: 2})
	log(t, m, before.Log+record(api.RRecover, ""))
}

// scribble writes into a list and its spare room, and behind its end.
func scribble[T any](list []T, with T) {
	all := list[:cap(list)]
	for i := range all {
		all[i] = with
	}
	_ = append(list, with, with, with)
}

func TestListsShareNoRoom(t *testing.T) {
	m := busy(t)
	submit(t, m, 9, 2)
	before := look(m)
	one, two := look(m), look(m)
	scribble(one.Tree, api.File{Path: "w", Blob: "w"})
	scribble(one.Queue, api.Waiting{ID: 99, Lane: 3, Passed: 9})
	if !reflect.DeepEqual(two, before) {
		t.Errorf("P2: writing into one answer has made %+v of another one, %+v", two, before)
	}
	if got := look(m); !reflect.DeepEqual(got, before) {
		t.Errorf("P2: writing into an answer has made the machine tell %+v, not %+v", got, before)
	}
	want(t, "P6: Cancel", m.Cancel(2), api.OK)
	submit(t, m, 10, 1)
	if !reflect.DeepEqual(two, before) {
		t.Errorf("P2: a call has made %+v of an answer, %+v", two, before)
	}
	want(t, "P13: Crash", m.Crash(), api.OK)
	want(t, "P13: Recover", m.Recover(), api.OK)
	tip(t, m, api.File{Path: "q", Blob: "1"})
	queue(t, m, api.Waiting{ID: 1, Lane: 1}, api.Waiting{ID: 10, Lane: 1}, api.Waiting{ID: 9, Lane: 2})
}
