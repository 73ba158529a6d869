package shunt_test

import (
	"cmp"
	"math/rand"
	"reflect"
	"slices"
	"testing"

	"shunt/api"
	"shunt/shunt"
)

// model is a machine without a train, as the document says it, by lists alone.
type model struct {
	config   api.Config
	queue    []api.Waiting // in the order of submitting
	seen     []int
	outcomes []api.Outcome
	acked    int
	log      string // whole records
	torn     string // what stands behind them
	down     bool
	breaks   bool
	keep     int
}

// write tells whether the call goes on to tell OK, and whether what it does is done (then or by a Recover).
func (o *model) write(record string) (err api.Errno, done bool) {
	if !o.breaks {
		o.log += record
		return api.OK, true
	}
	o.down, o.breaks = true, false
	if o.keep >= len(record) {
		o.log += record
		return api.ErrDown, true
	}
	o.torn = record[:max(0, o.keep)]
	return api.ErrDown, false
}

func (o *model) submit(id, lane int, mayBe bool) api.Errno {
	switch {
	case o.down:
		return api.ErrDown
	case id < 1 || id > 1000000 || lane < 0 || lane >= o.config.Lanes || !mayBe:
		return api.ErrChange
	case slices.Contains(o.seen, id):
		return api.ErrTwice
	case len(o.queue) == o.config.Queue:
		return api.ErrFull
	}
	err, done := o.write(submitted(id, lane))
	if done {
		o.seen = append(o.seen, id)
		o.queue = append(o.queue, api.Waiting{ID: id, Lane: lane})
	}
	return err
}

func (o *model) cancel(id int) api.Errno {
	i := slices.IndexFunc(o.queue, func(w api.Waiting) bool { return w.ID == id })
	switch {
	case o.down:
		return api.ErrDown
	case i < 0:
		return api.ErrNone
	}
	err, done := o.write(record(api.RCancel, eight(id)))
	if done {
		o.queue = slices.Delete(o.queue, i, i+1)
		o.outcomes = append(o.outcomes, api.Outcome{Number: len(o.outcomes) + 1, ID: id, Kind: api.Withdrawn})
	}
	return err
}

func (o *model) ack(n int) api.Errno {
	switch {
	case o.down:
		return api.ErrDown
	case o.acked == len(o.outcomes) || n != o.acked+1:
		return api.ErrNone
	}
	err, done := o.write(record(api.RAck, eight(n)))
	if done {
		o.acked++
	}
	return err
}

func (o *model) tick(n int) api.Errno {
	switch {
	case o.down:
		return api.ErrDown
	case n < 1 || n > 1000:
		return api.ErrTick
	}
	err, _ := o.write(record(api.RTick, eight(n)))
	return err
}

func (o *model) pump() api.Errno {
	if o.down {
		return api.ErrDown
	}
	err, _ := o.write(record(api.RPump, ""))
	return err
}

func (o *model) breakIt(keep int) api.Errno {
	if o.down {
		return api.ErrDown
	}
	o.breaks, o.keep = true, keep
	return api.OK
}

func (o *model) crash() api.Errno {
	if o.down {
		return api.ErrDown
	}
	o.down, o.breaks = true, false
	return api.OK
}

func (o *model) recover() api.Errno {
	if !o.down {
		return api.ErrUp
	}
	o.down, o.torn = false, ""
	o.log += record(api.RRecover, "")
	return api.OK
}

func (o *model) view(files []api.File) view {
	v := view{Log: o.log + o.torn}
	if o.down {
		for i := range v.Errors {
			v.Errors[i] = api.ErrDown
		}
		return v
	}
	v.Tree = files
	v.Queue = slices.Clone(o.queue)
	slices.SortStableFunc(v.Queue, func(a, b api.Waiting) int { return cmp.Compare(a.Lane, b.Lane) })
	v.Errors[5] = api.ErrNone
	if o.acked < len(o.outcomes) {
		v.Outcome, v.Errors[5] = o.outcomes[o.acked], api.OK
	}
	if len(v.Queue) == 0 {
		v.Queue = nil
	}
	return v
}

// step draws a call, and tells its name and what machine and model answer.
func step(r *rand.Rand, m *shunt.Machine, o *model) (name string, got, want api.Errno) {
	id := r.Intn(40)
	switch r.Intn(13) {
	case 0, 1, 2, 3:
		lane := r.Intn(o.config.Lanes+2) - 1
		if r.Intn(6) == 0 {
			return "Submit of wrong edits", m.Submit(id, lane, wrongEdits[r.Intn(len(wrongEdits))]), o.submit(id, lane, false)
		}
		return "Submit", m.Submit(id, lane, some()), o.submit(id, lane, true)
	case 4, 5:
		return "Cancel", m.Cancel(id), o.cancel(id)
	case 6, 7:
		n := o.acked + r.Intn(4)
		return "Ack", m.Ack(n), o.ack(n)
	case 8:
		n := r.Intn(1100) - 50
		return "Tick", m.Tick(n), o.tick(n)
	case 9:
		if len(o.queue) > 0 && !o.down {
			return "nothing", api.OK, api.OK // a Pump would take who waits
		}
		return "Pump", m.Pump(), o.pump()
	case 10:
		keep := r.Intn(35) - 2
		return "Break", m.Break(keep), o.breakIt(keep)
	case 11:
		return "Crash", m.Crash(), o.crash()
	}
	return "Recover", m.Recover(), o.recover()
}

func TestDrawn(t *testing.T) {
	r := rand.New(rand.NewSource(4))
	answers := map[api.Errno]int{}
	files := []api.File{{Path: "q", Blob: "1"}}
	for range 400 {
		c := wide
		c.Lanes, c.Queue = 1+r.Intn(api.MaxLanes), 1+r.Intn(api.MaxQueue)
		m, o := machine(t, c, files...), &model{config: c}
		for i := range 120 {
			name, got, want := step(r, m, o)
			answers[got]++
			if got != want {
				t.Fatalf("call %d, %s = %d, want %d", i, name, got, want)
			}
			if got, want := look(m), o.view(files); !reflect.DeepEqual(got, want) {
				t.Fatalf("behind call %d, %s: %+v, want %+v", i, name, got, want)
			}
		}
	}
	for _, e := range []api.Errno{api.OK, api.ErrChange, api.ErrTwice, api.ErrFull, api.ErrNone, api.ErrTick, api.ErrDown, api.ErrUp} {
		if answers[e] < 100 {
			t.Errorf("of the drawn calls %d answer %d: too few to show anything", answers[e], e)
		}
	}
}
