package shunt_test

import (
	"slices"
	"testing"
	"unsafe"

	"shunt/api"
	"shunt/shunt"
)

// TestNothingHandedInIsKept: lists and texts that are written into later change nothing, and are not written into.
func TestNothingHandedInIsKept(t *testing.T) {
	bytes := []byte("pathblobedit")
	path, blob, edit := unsafe.String(&bytes[0], 4), unsafe.String(&bytes[4], 4), unsafe.String(&bytes[8], 4)
	files := []api.File{{Path: path, Blob: blob}, {Path: "z", Blob: "spare"}}
	changes := []api.Edit{{Path: edit, Old: blob, New: path}, {Path: "z", New: "spare"}}
	files2, changes2 := slices.Clone(files), slices.Clone(changes)
	m := machine(t, plain, files[:1]...)
	want(t, "P6: Submit", m.Submit(1, 0, changes[:1]), api.OK)
	want(t, "P6: Submit", m.Submit(2, 0, changes[:1]), api.OK)
	want(t, "P6: Cancel", m.Cancel(1), api.OK)
	if !slices.Equal(files, files2) || !slices.Equal(changes, changes2) {
		t.Errorf("P2: what was handed in has become %v, %v", files, changes)
	}
	before := look(m)
	wanted := []api.File{{Path: "path", Blob: "blob"}}
	copy(bytes, "xxxxxxxxxxxx")
	clear(files)
	clear(changes)
	tip(t, m, wanted...)
	log(t, m, before.Log)
	want(t, "P13: Crash", m.Crash(), api.OK)
	want(t, "P13: Recover", m.Recover(), api.OK)
	tip(t, m, wanted...)
	queue(t, m, api.Waiting{ID: 2})
	log(t, m, before.Log+record(api.RRecover, ""))
}

// TestNoTextHandedInIsInTheTrain: nor in what has landed.
func TestNoTextHandedInIsInTheTrain(t *testing.T) {
	bytes := []byte("pathedit")
	m := machine(t, plain)
	want(t, "P6: Submit", m.Submit(1, 0, []api.Edit{{Path: unsafe.String(&bytes[0], 4), New: unsafe.String(&bytes[4], 4)}}), api.OK)
	pump(t, m)
	copy(bytes, "xxxxxxxx")
	jobs(t, m, running(1, 10, []int{1}, "path", "edit"))
	answer(t, m, 1, true)
	tip(t, m, api.File{Path: "path", Blob: "edit"})
	recoverCrashed(t, m)
	tip(t, m, api.File{Path: "path", Blob: "edit"})
}

// scribble writes into a list and its spare room, and behind its end.
func scribble[T any](list []T, with T) {
	all := list[:cap(list)]
	for i := range all {
		all[i] = with
	}
	_ = append(list, with, with, with)
}

// copied: a view with room of its own.
func copied(v view) view {
	v.Tree, v.Main, v.Queue, v.Train, v.Jobs = slices.Clone(v.Tree), slices.Clone(v.Main), slices.Clone(v.Queue), slices.Clone(v.Train), slices.Clone(v.Jobs)
	for i, tip := range v.Main {
		v.Main[i].IDs = slices.Clone(tip.IDs)
	}
	for i, s := range v.Train {
		v.Train[i].IDs = slices.Clone(s.IDs)
	}
	for i, j := range v.Jobs {
		v.Jobs[i].IDs, v.Jobs[i].Tree = slices.Clone(j.IDs), slices.Clone(j.Tree)
	}
	return v
}

// manyLists: two Tips, and a train of (2) (3) (4 5 6) (7), each with a job that was begun; some wait.
func manyLists(t *testing.T) *shunt.Machine {
	t.Helper()
	m := machine(t, with(eightAtOnce, func(c *api.Config) { c.Window = 4 }))
	for i, id := range []int{31, 32} {
		putOwn(t, m, id)
		pump(t, m)
		answer(t, m, i+1, true)
	}
	put(t, m, 1, "x", "", "1")
	putOwn(t, m, 2, 3, 4, 5, 6)
	put(t, m, 7, "x", "", "7")
	pump(t, m)
	for _, job := range []int{3, 4, 6, 9} {
		answer(t, m, job, false)
	}
	train(t, m, seg(13, 0, 2), seg(14, 0, 3), seg(15, 0, 4, 5, 6), seg(16, 0, 7))
	mainline(t, m, landed(1, 31), landed(2, 32))
	putOwn(t, m, 21, 22, 23)
	return m
}

// sharesNoRoom writes into one list of an answer: no other list, no other answer and no machine changes by that.
func sharesNoRoom[T any](t *testing.T, m *shunt.Machine, name string, of func(v *view) *[]T, with T) {
	t.Helper()
	one, two := look(m), look(m)
	before := copied(one)
	list := of(&one)
	if len(*list) == 0 {
		t.Fatalf("%s: there is no room to write into", name)
	}
	scribble(*list, with)
	*list = *of(&before)
	if !equal(one, before) {
		t.Errorf("P2: writing into %s has made %+v of the lists beside it, %+v", name, one, before)
	}
	if !equal(two, before) {
		t.Errorf("P2: writing into %s has made %+v of another answer, %+v", name, two, before)
	}
	if got := look(m); !equal(got, before) {
		t.Errorf("P2: writing into %s has made the machine tell %+v, not %+v", name, got, before)
	}
}

func TestListsShareNoRoom(t *testing.T) {
	m := manyLists(t)
	sharesNoRoom(t, m, "Tree()", func(v *view) *[]api.File { return &v.Tree }, api.File{Path: "w", Blob: "w"})
	sharesNoRoom(t, m, "Queue()", func(v *view) *[]api.Waiting { return &v.Queue }, api.Waiting{ID: 99, Lane: 3, Passed: 9})
	sharesNoRoom(t, m, "Main()", func(v *view) *[]api.Tip { return &v.Main }, landed(99, 99))
	sharesNoRoom(t, m, "Train()", func(v *view) *[]api.Segment { return &v.Train }, seg(99, 9, 99))
	sharesNoRoom(t, m, "Jobs()", func(v *view) *[]api.Job { return &v.Jobs }, running(99, 99, []int{99}, "w", "w"))
	for i := range 2 {
		sharesNoRoom(t, m, "the ids of a tip", func(v *view) *[]int { return &v.Main[i].IDs }, 99)
	}
	for i := range 4 {
		sharesNoRoom(t, m, "the ids of a segment", func(v *view) *[]int { return &v.Train[i].IDs }, 99)
		sharesNoRoom(t, m, "the ids of a job", func(v *view) *[]int { return &v.Jobs[i].IDs }, 99)
		sharesNoRoom(t, m, "the tree of a job", func(v *view) *[]api.File { return &v.Jobs[i].Tree }, api.File{Path: "w", Blob: "w"})
	}
	for job := 13; job <= 16; job++ {
		answer(t, m, job, true)
	}
	mainline(t, m, landed(1, 31), landed(2, 32), landed(13, 2), landed(14, 3), landed(15, 4, 5, 6), landed(16, 7))
}

// TestAnswersStayAsTheyAre: whatever is called later.
func TestAnswersStayAsTheyAre(t *testing.T) {
	for _, w := range writers {
		m := busy(t)
		told := look(m)
		before := copied(told)
		want(t, w.name, w.call(m), api.OK)
		pump(t, m)
		recoverCrashed(t, m)
		pump(t, m)
		if !equal(told, before) {
			t.Errorf("P2: %s has made %+v of an answer, %+v", w.name, told, before)
		}
	}
}
