package yard

import (
	"shunt/api"
	"shunt/fileset"
)

// change is one in the train.
type change struct {
	id    int
	edits []api.Edit
}

// job is one that is running.
type job struct {
	number, until int
	tree          []api.File
}

// segment is changes that are tested as one. One that has nothing but its
// changes is new. Segments that were one may share the room of these: nobody
// writes into it.
type segment struct {
	changes  []change
	fails    int
	passedBy int  // the job that it has passed (0: it has not passed)
	job      *job // nil: none is running
}

// renew makes a segment new: what it was tested with is no more.
func (s *segment) renew() {
	*s = segment{changes: s.changes}
}

// applyTo changes files by the changes, one by one, up to the first one that
// does not apply, and tells how many have applied.
func (s *segment) applyTo(files fileset.Set) int {
	for i, c := range s.changes {
		if !files.Apply(c.edits) {
			return i
		}
	}
	return len(s.changes)
}

// endJob lets the segment pass by the job that is running, or fail.
func (s *segment) endJob(pass bool) {
	if pass {
		s.passedBy = s.job.number
	} else {
		s.fails++
	}
	s.job = nil
}

func (s *segment) hasPassed() bool {
	return s.passedBy != 0
}

func (s *segment) ids() []int {
	var list []int
	for _, c := range s.changes {
		list = append(list, c.id)
	}
	return list
}

func (s *segment) tell() api.Segment {
	told := api.Segment{IDs: s.ids(), Fails: s.fails, Passed: s.hasPassed()}
	if s.job != nil {
		told.Job = s.job.number
	}
	return told
}
