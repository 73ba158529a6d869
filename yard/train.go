package yard

import (
	"slices"

	"shunt/api"
	"shunt/fileset"
	"shunt/line"
)

// pump lets the train go on as far as it can (P8), and begins jobs (P9).
func (y *Yard) pump() {
	for y.goOn() {
	}
	y.beginJobs()
}

// goOn does the first of the things that can be done (P8), and tells whether
// there was one.
func (y *Yard) goOn() bool {
	first, ok := y.train.First()
	if !ok {
		return y.takeBatch()
	}
	files := y.tip.Clone()
	applied := first.applyTo(files)
	switch {
	case applied == 0:
		y.conflict(first)
	case applied < len(first.changes):
		y.split(first, applied)
	case first.hasPassed():
		y.land(first, files)
	case y.failedTooOften(first):
		y.blame(first)
	default:
		return false
	}
	return true
}

// takeBatch makes a segment of the first who wait, by rank, and tells whether
// somebody waits.
func (y *Yard) takeBatch() bool {
	if len(y.queue) == 0 {
		return false
	}
	ranked := line.ByRank(y.queue)
	size := min(y.config.Batch, len(ranked))
	var batch []change
	for _, w := range ranked[:size] {
		batch = append(batch, change{w.ID, w.edits})
	}
	y.train.Add(&segment{changes: batch})
	y.queue = slices.Delete(ranked, 0, size)
	for i := range y.queue {
		y.queue[i].Passed++
	}
	return true
}

// conflict ends the first change of the first segment.
func (y *Yard) conflict(first *segment) {
	y.end(first.changes[0].id, api.Conflict)
	y.train.Drop()
	if rest := first.changes[1:]; len(rest) > 0 {
		y.train.AddFirst(&segment{changes: rest})
	}
}

// split makes two new segments of the first one: so many changes, and the rest.
func (y *Yard) split(first *segment, size int) {
	y.train.Drop()
	y.train.AddFirst(&segment{changes: first.changes[size:]})
	y.train.AddFirst(&segment{changes: first.changes[:size]})
}

// land makes of the tip what the first segment has made of it.
func (y *Yard) land(first *segment, files fileset.Set) {
	y.tip = files
	for _, c := range first.changes {
		y.end(c.id, api.Landed)
	}
	y.mainline = append(y.mainline, api.Tip{Job: first.passedBy, IDs: first.ids()})
	y.train.Drop()
}

// blame halves the first segment, or ends its one change. Whatever was tested
// behind it was tested with what has failed.
func (y *Yard) blame(first *segment) {
	if size := len(first.changes); size > 1 {
		y.split(first, (size+1)/2)
	} else {
		y.end(first.changes[0].id, api.Failed)
		y.train.Drop()
	}
	for s := range y.train.All() {
		s.renew()
	}
}

// beginJobs lets the first segments be tested, each as if those ahead of it
// had landed (P9).
func (y *Yard) beginJobs() {
	files, room := y.tip.Clone(), y.config.Window
	for s := range y.train.All() {
		if room == 0 || s.applyTo(files) < len(s.changes) || y.failedTooOften(s) {
			return
		}
		room--
		if !s.hasPassed() && s.job == nil {
			y.begun++
			s.job = &job{number: y.begun, until: y.now + y.config.Deadline, tree: files.List()}
		}
	}
}

func (y *Yard) failedTooOften(s *segment) bool {
	return s.fails > y.config.Retries
}

// testedBy tells the segment of a job that is running, if it is.
func (y *Yard) testedBy(number int) (*segment, bool) {
	for s := range y.train.All() {
		if s.job != nil && s.job.number == number {
			return s, true
		}
	}
	return nil, false
}

// tick lets time go on, and fail whose time has come (P10).
func (y *Yard) tick(n int) {
	y.now += n
	for s := range y.train.All() {
		if s.job != nil && s.job.until <= y.now {
			s.endJob(false)
		}
	}
}

// loseJobs lets no job run any more (P13).
func (y *Yard) loseJobs() {
	for s := range y.train.All() {
		s.job = nil
	}
}
