// Package yard: what a machine that is up knows, and what each record does to it.
package yard

import (
	"cmp"
	"slices"

	"shunt/api"
	"shunt/fileset"
	"shunt/journal"
	"shunt/line"
)

// Yard is the mainline, who waits, the train, and the outcomes.
type Yard struct {
	config    api.Config
	tip       fileset.Set // never written into, but replaced: first it is the files that New was given
	mainline  []api.Tip
	queue     []waiting
	submitted map[int]struct{} // whatever became of them
	train     line.Line[*segment]
	begun     int // jobs so far
	now       int
	ended     int                    // changes so far
	outcomes  line.Line[api.Outcome] // that are not acknowledged
}

// New makes a yard in which nothing has happened (P5).
func New(c api.Config, files fileset.Set) *Yard {
	return &Yard{config: c, tip: files, submitted: map[int]struct{}{}}
}

// Check tells why what a record says can't be done (OK: it can). Nothing is
// written into the journal that can't be done, so Do need not ask again.
func (y *Yard) Check(r journal.Record) api.Errno {
	switch r.Kind {
	case api.RSubmit:
		return y.checkSubmit(r)
	case api.RCancel:
		if !y.waits(r.ID) {
			return api.ErrNone
		}
	case api.RAnswer:
		if _, runs := y.testedBy(r.Number); !runs {
			return api.ErrJob
		}
	case api.RTick:
		if r.Number < 1 || r.Number > api.MaxTick {
			return api.ErrTick
		}
	case api.RAck:
		if oldest, ok := y.Oldest(); !ok || oldest.Number != r.Number {
			return api.ErrNone
		}
	}
	return api.OK
}

// Do does what a record says, the first time as well as again.
func (y *Yard) Do(r journal.Record) {
	switch r.Kind {
	case api.RSubmit:
		y.submit(r)
	case api.RCancel:
		y.withdraw(r.ID)
	case api.RPump:
		y.pump()
	case api.RAnswer:
		if s, runs := y.testedBy(r.Number); runs {
			s.endJob(r.Pass)
		}
	case api.RTick:
		y.tick(r.Number)
	case api.RAck:
		y.outcomes.Drop()
	case api.RRecover:
		y.loseJobs()
	}
}

// Oldest tells the oldest outcome that is not acknowledged, if there is one (P11).
func (y *Yard) Oldest() (api.Outcome, bool) {
	return y.outcomes.First()
}

// Tree tells the tip (P14).
func (y *Yard) Tree() []api.File {
	return y.tip.List()
}

// Main tells the mainline, the oldest Tip first (P14).
func (y *Yard) Main() []api.Tip {
	list := slices.Clone(y.mainline)
	for i := range list {
		list[i].IDs = slices.Clone(list[i].IDs)
	}
	return list
}

// Train tells the segments, the first first (P14).
func (y *Yard) Train() []api.Segment {
	var list []api.Segment
	for s := range y.train.All() {
		list = append(list, s.tell())
	}
	return list
}

// Jobs tells what is running, by rising numbers (P14).
func (y *Yard) Jobs() []api.Job {
	var list []api.Job
	var ids []int
	for s := range y.train.All() {
		ids = append(ids, s.ids()...)
		if j := s.job; j != nil {
			list = append(list, api.Job{Number: j.number, Until: j.until, IDs: slices.Clone(ids), Tree: slices.Clone(j.tree)})
		}
	}
	slices.SortFunc(list, func(a, b api.Job) int { return cmp.Compare(a.Number, b.Number) })
	return list
}

// Queue tells who waits, by rank (P7, P14).
func (y *Yard) Queue() []api.Waiting {
	var list []api.Waiting
	for _, w := range line.ByRank(y.queue) {
		list = append(list, w.Waiting)
	}
	return list
}

func (y *Yard) checkSubmit(r journal.Record) api.Errno {
	if !y.changeMayBe(r) {
		return api.ErrChange
	}
	if _, twice := y.submitted[r.ID]; twice {
		return api.ErrTwice
	}
	if len(y.queue) >= y.config.Queue {
		return api.ErrFull
	}
	return api.OK
}

func (y *Yard) changeMayBe(r journal.Record) bool {
	return r.ID >= 1 && r.ID <= api.MaxID && r.Lane >= 0 && r.Lane < y.config.Lanes && fileset.EditsMayBe(r.Edits)
}

func (y *Yard) waits(id int) bool {
	return slices.ContainsFunc(y.queue, func(w waiting) bool { return w.ID == id })
}

func (y *Yard) submit(r journal.Record) {
	y.queue = append(y.queue, waiting{
		Waiting: api.Waiting{ID: r.ID, Lane: r.Lane},
		age:     y.config.Age,
		order:   len(y.submitted),
		edits:   fileset.CopyEdits(r.Edits), // the caller may write into them later
	})
	y.submitted[r.ID] = struct{}{}
}

func (y *Yard) withdraw(id int) {
	y.queue = slices.DeleteFunc(y.queue, func(w waiting) bool { return w.ID == id })
	y.end(id, api.Withdrawn)
}

func (y *Yard) end(id, kind int) {
	y.ended++
	y.outcomes.Add(api.Outcome{Number: y.ended, ID: id, Kind: kind})
}
