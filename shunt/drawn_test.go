package shunt_test

import (
	"math/rand"
	"testing"

	"shunt/api"
	"shunt/shunt"
)

// drawnConfig: any settings there may be.
func drawnConfig(r *rand.Rand) api.Config {
	var c api.Config
	for _, s := range settings {
		*s.of(&c) = s.least + r.Intn(s.most-s.least+1)
	}
	return c
}

// drawnEdits: of a path of its own, or of some that others have too.
func drawnEdits(r *rand.Rand, id int) []api.Edit {
	if r.Intn(3) > 0 {
		return edits(own(id), "", "1")
	}
	texts := []string{"", "1", "2"}
	var list []api.Edit
	for _, path := range []string{"a", "b", "q"} {
		from := r.Intn(3)
		if r.Intn(2) == 0 {
			list = append(list, api.Edit{Path: path, Old: texts[from], New: texts[(from+1+r.Intn(2))%3]})
		}
	}
	if list == nil {
		return edits("a", "", "2")
	}
	return list
}

// drawnJob: mostly one that is running.
func drawnJob(r *rand.Rand, o *model) int {
	if l := o.view().Jobs; len(l) > 0 && r.Intn(8) > 0 {
		return l[r.Intn(len(l))].Number
	}
	return r.Intn(o.begun+3) - 1
}

// step draws a call, and tells its name and what machine and model answer.
func step(r *rand.Rand, m *shunt.Machine, o *model) (name string, got, want api.Errno) {
	if o.down && r.Intn(2) == 0 { // else most machines would be down
		return "Recover", m.Recover(), o.recover()
	}
	switch id := r.Intn(60); r.Intn(20) {
	case 0, 1, 2, 3, 4:
		lane := r.Intn(o.config.Lanes)
		if r.Intn(10) == 0 {
			lane = r.Intn(o.config.Lanes+2) - 1
		}
		if r.Intn(12) == 0 {
			return "Submit of wrong edits", m.Submit(id, lane, wrongEdits[r.Intn(len(wrongEdits))]), o.submit(id, lane, nil, false)
		}
		e := drawnEdits(r, id)
		return "Submit", m.Submit(id, lane, e), o.submit(id, lane, e, true)
	case 5:
		return "Cancel", m.Cancel(id), o.cancel(id)
	case 6, 7:
		n := o.acked + r.Intn(3)
		return "Ack", m.Ack(n), o.ack(n)
	case 8:
		n := r.Intn(30) - 3
		if r.Intn(10) == 0 {
			n = 990 + r.Intn(20)
		}
		return "Tick", m.Tick(n), o.tick(n)
	case 9, 10, 11, 12:
		return "Pump", m.Pump(), o.pump()
	case 13, 14, 15, 16:
		job, pass := drawnJob(r, o), r.Intn(3) > 0
		return "Answer", m.Answer(job, pass), o.answer(job, pass)
	case 17:
		keep := r.Intn(35) - 2
		return "Break", m.Break(keep), o.breakIt(keep)
	case 18:
		if r.Intn(3) > 0 {
			return "nothing", api.OK, api.OK
		}
		return "Crash", m.Crash(), o.crash()
	}
	return "Recover", m.Recover(), o.recover()
}

// TestDrawn holds machines against the model, call by call.
func TestDrawn(t *testing.T) {
	r := rand.New(rand.NewSource(4))
	answers, kinds, most := map[api.Errno]int{}, map[int]int{}, 0
	for range 600 {
		c := drawnConfig(r)
		m := machine(t, c, api.File{Path: "q", Blob: "1"})
		o := &model{config: c, tip: []api.File{{Path: "q", Blob: "1"}}, edits: map[int][]api.Edit{}}
		for i := range 200 {
			name, got, want := step(r, m, o)
			answers[got]++
			if got != want {
				t.Fatalf("%+v: call %d, %s = %d, want %d", c, i, name, got, want)
			}
			if got, want := look(m), o.view(); !equal(got, want) {
				t.Fatalf("%+v: behind call %d, %s: %+v, want %+v", c, i, name, got, want)
			}
			most = max(most, len(o.view().Jobs))
		}
		for _, e := range o.outcomes {
			kinds[e.Kind]++
		}
	}
	for _, e := range []api.Errno{api.OK, api.ErrChange, api.ErrTwice, api.ErrFull, api.ErrNone, api.ErrJob, api.ErrTick, api.ErrDown, api.ErrUp} {
		if answers[e] < 100 {
			t.Errorf("of the drawn calls %d answer %d: too few to show anything", answers[e], e)
		}
	}
	for _, k := range []int{api.Landed, api.Failed, api.Conflict, api.Withdrawn} {
		if kinds[k] < 100 {
			t.Errorf("of the outcomes %d are of the kind %d: too few to show anything", kinds[k], k)
		}
	}
	if most < 3 {
		t.Errorf("no more than %d jobs were running at once", most)
	}
}
