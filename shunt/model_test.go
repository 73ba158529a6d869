package shunt_test

import (
	"cmp"
	"slices"

	"shunt/api"
	"shunt/tree"
)

// model is a machine as the document says it, by lists alone. It does not do
// its records again: it keeps what a crash is not to lose.
type model struct {
	config   api.Config
	tip      []api.File
	main     []api.Tip
	queue    []api.Waiting // in the order of submitting
	edits    map[int][]api.Edit
	parts    []part
	begun    int
	now      int
	outcomes []api.Outcome
	acked    int
	log      string // whole records
	torn     string // what stands behind them
	down     bool
	breaks   bool
	keep     int
}

// part is a segment.
type part struct {
	ids        []int
	fails      int
	passed     int // by which job
	job, until int
	tree       []api.File
}

// write tells whether the call goes on to tell OK, and whether what it does is done (then or by a Recover).
func (o *model) write(record string) (err api.Errno, done bool) {
	if !o.breaks {
		o.log += record
		return api.OK, true
	}
	o.down, o.breaks = true, false
	if o.keep >= len(record) {
		o.log += record
		return api.ErrDown, true
	}
	o.torn = record[:max(0, o.keep)]
	return api.ErrDown, false
}

func (o *model) submit(id, lane int, edits []api.Edit, mayBe bool) api.Errno {
	_, twice := o.edits[id]
	switch {
	case o.down:
		return api.ErrDown
	case id < 1 || id > 1000000 || lane < 0 || lane >= o.config.Lanes || !mayBe:
		return api.ErrChange
	case twice:
		return api.ErrTwice
	case len(o.queue) == o.config.Queue:
		return api.ErrFull
	}
	err, done := o.write(submittedOf(id, lane, edits))
	if done {
		o.edits[id] = edits
		o.queue = append(o.queue, api.Waiting{ID: id, Lane: lane})
	}
	return err
}

func (o *model) cancel(id int) api.Errno {
	i := slices.IndexFunc(o.queue, func(w api.Waiting) bool { return w.ID == id })
	switch {
	case o.down:
		return api.ErrDown
	case i < 0:
		return api.ErrNone
	}
	err, done := o.write(record(api.RCancel, eight(id)))
	if done {
		o.queue = slices.Delete(o.queue, i, i+1)
		o.end(id, api.Withdrawn)
	}
	return err
}

func (o *model) ack(n int) api.Errno {
	switch {
	case o.down:
		return api.ErrDown
	case o.acked == len(o.outcomes) || n != o.acked+1:
		return api.ErrNone
	}
	err, done := o.write(record(api.RAck, eight(n)))
	if done {
		o.acked++
	}
	return err
}

func (o *model) answer(job int, pass bool) api.Errno {
	i := slices.IndexFunc(o.parts, func(p part) bool { return p.job != 0 && p.job == job })
	switch {
	case o.down:
		return api.ErrDown
	case i < 0:
		return api.ErrJob
	}
	err, done := o.write(answered(job, pass))
	if p := &o.parts[i]; done {
		if p.job = 0; pass {
			p.passed = job
		} else {
			p.fails++
		}
	}
	return err
}

func (o *model) tick(n int) api.Errno {
	switch {
	case o.down:
		return api.ErrDown
	case n < 1 || n > 1000:
		return api.ErrTick
	}
	err, done := o.write(record(api.RTick, eight(n)))
	if !done {
		return err
	}
	o.now += n
	for i, p := range o.parts {
		if p.job != 0 && p.until <= o.now {
			o.parts[i].job, o.parts[i].fails = 0, p.fails+1
		}
	}
	return err
}

func (o *model) pump() api.Errno {
	if o.down {
		return api.ErrDown
	}
	err, done := o.write(record(api.RPump, ""))
	if done {
		for o.batch() || o.conflict() || o.cutOff() || o.land() || o.blame() {
		}
		o.begin()
	}
	return err
}

// made: what files and changes make, and whether all apply.
func (o *model) made(files []api.File, ids ...int) ([]api.File, bool) {
	for _, id := range ids {
		var e api.Errno
		if files, e = tree.Apply(files, o.edits[id]); e != api.OK {
			return nil, false
		}
	}
	return files, true
}

func (o *model) end(id, kind int) {
	o.outcomes = append(o.outcomes, api.Outcome{Number: len(o.outcomes) + 1, ID: id, Kind: kind})
}

// replace puts new segments into the place of the first one.
func (o *model) replace(lists ...[]int) {
	var parts []part
	for _, ids := range lists {
		if len(ids) > 0 {
			parts = append(parts, part{ids: ids})
		}
	}
	o.parts = append(parts, o.parts[1:]...)
}

func (o *model) byRank() []api.Waiting {
	counts := func(w api.Waiting) int { return max(0, w.Lane-w.Passed/o.config.Age) }
	list := slices.Clone(o.queue)
	slices.SortStableFunc(list, func(a, b api.Waiting) int { return cmp.Compare(counts(a), counts(b)) })
	return list
}

func (o *model) batch() bool {
	if len(o.parts) > 0 || len(o.queue) == 0 {
		return false
	}
	var ids []int
	for _, w := range o.byRank()[:min(len(o.queue), o.config.Batch)] {
		ids = append(ids, w.ID)
	}
	o.queue = slices.DeleteFunc(o.queue, func(w api.Waiting) bool { return slices.Contains(ids, w.ID) })
	for i := range o.queue {
		o.queue[i].Passed++
	}
	o.parts = []part{{ids: ids}}
	return true
}

func (o *model) conflict() bool {
	if len(o.parts) == 0 {
		return false
	}
	ids := o.parts[0].ids
	if _, ok := o.made(o.tip, ids[0]); ok {
		return false
	}
	o.end(ids[0], api.Conflict)
	o.replace(ids[1:])
	return true
}

func (o *model) cutOff() bool {
	if len(o.parts) == 0 {
		return false
	}
	ids := o.parts[0].ids
	for n := 2; n <= len(ids); n++ {
		if _, ok := o.made(o.tip, ids[:n]...); !ok {
			o.replace(ids[:n-1], ids[n-1:])
			return true
		}
	}
	return false
}

func (o *model) land() bool {
	if len(o.parts) == 0 || o.parts[0].passed == 0 {
		return false
	}
	first := o.parts[0]
	o.tip, _ = o.made(o.tip, first.ids...)
	for _, id := range first.ids {
		o.end(id, api.Landed)
	}
	o.main = append(o.main, api.Tip{Job: first.passed, IDs: first.ids})
	o.replace()
	return true
}

func (o *model) blame() bool {
	if len(o.parts) == 0 || o.parts[0].fails <= o.config.Retries {
		return false
	}
	ids := o.parts[0].ids
	if len(ids) == 1 {
		o.end(ids[0], api.Failed)
		o.replace()
	} else {
		half := len(ids) - len(ids)/2
		o.replace(ids[:half], ids[half:])
	}
	for i, p := range o.parts {
		o.parts[i] = part{ids: p.ids}
	}
	return true
}

func (o *model) begin() {
	var ids []int
	for i := range min(len(o.parts), o.config.Window) {
		p := &o.parts[i]
		ids = append(ids, p.ids...)
		files, ok := o.made(o.tip, ids...)
		if !ok || p.fails > o.config.Retries {
			return
		}
		if p.passed == 0 && p.job == 0 {
			o.begun++
			p.job, p.until, p.tree = o.begun, o.now+o.config.Deadline, files
		}
	}
}

func (o *model) breakIt(keep int) api.Errno {
	if o.down {
		return api.ErrDown
	}
	o.breaks, o.keep = true, keep
	return api.OK
}

func (o *model) crash() api.Errno {
	if o.down {
		return api.ErrDown
	}
	o.down, o.breaks = true, false
	return api.OK
}

func (o *model) recover() api.Errno {
	if !o.down {
		return api.ErrUp
	}
	o.down, o.torn = false, ""
	for i := range o.parts {
		o.parts[i].job = 0
	}
	o.log += record(api.RRecover, "")
	return api.OK
}

func (o *model) view() view {
	v := view{Log: o.log + o.torn}
	if o.down {
		for i := range v.Errors {
			v.Errors[i] = api.ErrDown
		}
		return v
	}
	v.Tree, v.Main = o.tip, o.main
	if len(o.queue) > 0 {
		v.Queue = o.byRank()
	}
	var ids []int
	for _, p := range o.parts {
		v.Train = append(v.Train, api.Segment{IDs: p.ids, Fails: p.fails, Passed: p.passed != 0, Job: p.job})
		if ids = append(ids, p.ids...); p.job != 0 {
			v.Jobs = append(v.Jobs, api.Job{Number: p.job, Until: p.until, IDs: slices.Clone(ids), Tree: p.tree})
		}
	}
	slices.SortFunc(v.Jobs, func(a, b api.Job) int { return a.Number - b.Number })
	v.Errors[5] = api.ErrNone
	if o.acked < len(o.outcomes) {
		v.Outcome, v.Errors[5] = o.outcomes[o.acked], api.OK
	}
	return v
}
