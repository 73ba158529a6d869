package shunt_test

import (
	"math/rand"
	"slices"
	"testing"

	"shunt/api"
	"shunt/shunt"
	"shunt/tree"
)

// What became of a job.
const (
	runs = iota
	hasPassed
	hasFailed
	wasLost // or dropped
)

// evidence is what was seen of a job: its segment's changes, its tree, and what became of it.
type evidence struct {
	ids   []int
	tree  []api.File
	state int
}

// witness looks at a machine from outside, and holds it against what P15 promises.
type witness struct {
	t       *testing.T
	m       *shunt.Machine
	config  api.Config
	edits   map[int][]api.Edit
	jobs    map[int]*evidence
	main    []api.Tip
	tree    []api.File // of the last Tip
	kinds   map[int]int
	counted [api.Withdrawn + 1]int
}

func newWitness(t *testing.T, c api.Config, files ...api.File) *witness {
	m := machine(t, c, files...)
	first, _ := m.Tree()
	return &witness{t: t, m: m, config: c, edits: map[int][]api.Edit{}, jobs: map[int]*evidence{}, tree: first, kinds: map[int]int{}}
}

func (w *witness) submit(id, lane int, e []api.Edit) {
	if w.m.Submit(id, lane, e) == api.OK {
		w.edits[id] = e
	}
}

// pump looks at which jobs are begun and which are dropped, and at what has come of it.
func (w *witness) pump() {
	want(w.t, "P8: Pump", w.m.Pump(), api.OK)
	w.gone(wasLost)
	trees := map[int][]api.File{}
	list, _ := w.m.Jobs()
	for _, j := range list {
		trees[j.Number] = j.Tree
	}
	segments, _ := w.m.Train()
	for _, s := range segments {
		if s.Job != 0 && w.jobs[s.Job] == nil {
			w.jobs[s.Job] = &evidence{ids: s.IDs, tree: trees[s.Job]}
		}
	}
	w.checkMain()
	w.checkOutcomes()
}

// gone lets those that are not told any more be in a state.
func (w *witness) gone(state int) {
	list, _ := w.m.Jobs()
	for number, j := range w.jobs {
		if j.state == runs && !slices.ContainsFunc(list, func(j api.Job) bool { return j.Number == number }) {
			j.state = state
		}
	}
}

func (w *witness) answer(job int, pass bool) {
	want(w.t, "P10: Answer", w.m.Answer(job, pass), api.OK)
	if pass {
		w.gone(hasPassed)
	} else {
		w.gone(hasFailed)
	}
}

func (w *witness) tick(n int) {
	want(w.t, "P10: Tick", w.m.Tick(n), api.OK)
	w.gone(hasFailed)
}

// crash checks that nothing but the running jobs is lost.
func (w *witness) crash() {
	before := look(w.m)
	want(w.t, "P13: Crash", w.m.Crash(), api.OK)
	want(w.t, "P13: Recover", w.m.Recover(), api.OK)
	if got, want := look(w.m), recovered(before); !equal(got, want) {
		w.t.Fatalf("P15: a crash has made %+v, want %+v", got, want)
	}
	w.gone(wasLost)
}

// checkMain: the mainline only grows; each Tip's tree is that of a job which has passed.
func (w *witness) checkMain() {
	w.t.Helper()
	main, _ := w.m.Main()
	if len(main) < len(w.main) || !slices.EqualFunc(main[:len(w.main)], w.main, equalTips) {
		w.t.Fatalf("P15: the mainline was %+v, and has become %+v", w.main, main)
	}
	for _, tip := range main[len(w.main):] {
		for _, id := range tip.IDs {
			var e api.Errno
			if w.tree, e = tree.Apply(w.tree, w.edits[id]); e != api.OK {
				w.t.Fatalf("P15: %d has landed, but does not apply", id)
			}
		}
		if j := w.jobs[tip.Job]; j == nil || j.state != hasPassed || !slices.Equal(j.tree, w.tree) || !slices.Equal(j.ids, tip.IDs) {
			w.t.Fatalf("P15: %+v has landed and made %+v; what was seen of its job is %+v", tip, w.tree, j)
		}
	}
	w.main = main
	if got, _ := w.m.Tree(); !slices.Equal(got, w.tree) {
		w.t.Fatalf("P15: the tip is %+v, but the last Tip's tree is %+v", got, w.tree)
	}
}

func equalTips(one, two api.Tip) bool {
	return one.Job == two.Job && slices.Equal(one.IDs, two.IDs)
}

// checkOutcomes: no change gets two; what has failed was alone in enough jobs.
func (w *witness) checkOutcomes() {
	w.t.Helper()
	for {
		o, e := w.m.Poll()
		if e != api.OK {
			return
		}
		want(w.t, "P11: Ack", w.m.Ack(o.Number), api.OK)
		if w.kinds[o.ID] != 0 {
			w.t.Fatalf("P15: %d gets two outcomes, %d and %d", o.ID, w.kinds[o.ID], o.Kind)
		}
		w.kinds[o.ID] = o.Kind
		w.counted[o.Kind]++
		if o.Kind == api.Failed {
			w.checkFailed(o.ID)
		}
		if landed := slices.ContainsFunc(w.main, func(tip api.Tip) bool { return slices.Contains(tip.IDs, o.ID) }); landed != (o.Kind == api.Landed) {
			w.t.Fatalf("P15: the outcome of %d is %d, and the mainline is %+v", o.ID, o.Kind, w.main)
		}
	}
}

func (w *witness) checkFailed(id int) {
	w.t.Helper()
	alone, e := tree.Apply(w.tree, w.edits[id])
	if e != api.OK {
		w.t.Fatalf("P15: %d has failed, but does not apply", id)
	}
	n := 0
	for _, j := range w.jobs {
		if j.state == hasFailed && slices.Equal(j.ids, []int{id}) && slices.Equal(j.tree, alone) {
			n++
		}
	}
	if n < w.config.Retries+1 {
		w.t.Fatalf("P15: %d has failed: it was alone in %d jobs that have failed, want %d", id, n, w.config.Retries+1)
	}
}

// TestEvidence: whatever the answers are.
func TestEvidence(t *testing.T) {
	r := rand.New(rand.NewSource(5))
	var counted [api.Withdrawn + 1]int
	for range 300 {
		w := newWitness(t, drawnConfig(r), api.File{Path: "q", Blob: "1"})
		flaky := 1 + r.Intn(4)
		for i := range 200 {
			switch r.Intn(12) {
			case 0, 1, 2:
				w.submit(i+1, r.Intn(w.config.Lanes), drawnEdits(r, i+1))
			case 3:
				w.m.Cancel(1 + r.Intn(i+1))
			case 4:
				w.tick(1 + r.Intn(20))
			case 5:
				if r.Intn(3) == 0 {
					w.crash()
				}
			case 6, 7, 8:
				w.pump()
			default:
				if l, _ := w.m.Jobs(); len(l) > 0 {
					w.answer(l[r.Intn(len(l))].Number, r.Intn(5) >= flaky)
				}
			}
		}
		for kind, n := range w.counted {
			counted[kind] += n
		}
	}
	for kind := api.Landed; kind <= api.Withdrawn; kind++ {
		if counted[kind] < 100 {
			t.Errorf("of the outcomes %d are of the kind %d: too few to show anything", counted[kind], kind)
		}
	}
}

// TestJustTheCulpritsFail: with any of the changes as culprits, whatever job is answered first, through crashes.
func TestJustTheCulpritsFail(t *testing.T) {
	r := rand.New(rand.NewSource(6))
	for n := 1; n <= 8; n++ {
		for culprits := range 1 << n {
			c := drawnConfig(r)
			c.Queue, c.Deadline = api.MaxQueue, api.MaxDeadline
			w := newWitness(t, c)
			isCulprit := func(id int) bool { return culprits>>(id-1)&1 == 1 }
			for id := 1; id <= n; id++ {
				w.submit(id, r.Intn(c.Lanes), edits(own(id), "", "1"))
			}
			for round := 0; len(w.kinds) < n; round++ {
				if round > 2000 {
					t.Fatalf("P15: %+v: not all of %d changes get an outcome: %v", c, n, w.kinds)
				}
				w.pump()
				if l, _ := w.m.Jobs(); len(l) > 0 {
					j := l[r.Intn(len(l))]
					w.answer(j.Number, !slices.ContainsFunc(j.IDs, isCulprit))
				}
				if r.Intn(10) == 0 {
					w.crash()
				}
			}
			for id := 1; id <= n; id++ {
				if kind := w.kinds[id]; isCulprit(id) != (kind == api.Failed) || isCulprit(id) == (kind == api.Landed) {
					t.Fatalf("P15: %+v: of %d changes with the culprits %b the outcome of %d is %d", c, n, culprits, id, kind)
				}
			}
		}
	}
}
