package shunt_test

import (
	"strings"
	"testing"

	"shunt/api"
	"shunt/shunt"
)

// upTo: 1, 2, 3 .. n.
func upTo(n int) []int {
	var l []int
	for i := 1; i <= n; i++ {
		l = append(l, i)
	}
	return l
}

// started: changes of different paths are in the train; job 1 has all.
func started(t *testing.T, c api.Config, ids ...int) *shunt.Machine {
	t.Helper()
	m := machine(t, c)
	putOwn(t, m, ids...)
	pump(t, m)
	train(t, m, seg(1, 0, ids...))
	return m
}

// eightAtOnce: settings for as many changes as a train may have.
var eightAtOnce = with(plain, func(c *api.Config) { c.Batch = 8 })

func TestPumpOfNothing(t *testing.T) {
	m := machine(t, plain, api.File{Path: "q", Blob: "1"})
	before := look(m)
	for n := range 3 {
		pump(t, m)
		if got, want := look(m), withLog(before, strings.Repeat(record(api.RPump, ""), n+1)); !equal(got, want) {
			t.Errorf("P8: a Pump of nothing has made %+v, want %+v", got, want)
		}
	}
}

func TestBatchOfTheFirst(t *testing.T) {
	for batch := 1; batch <= api.MaxBatch; batch++ {
		for n := 1; n <= batch+2; n++ {
			m := machine(t, with(wide, func(c *api.Config) { c.Batch = batch }))
			putOwn(t, m, upTo(n)...)
			pump(t, m)
			size := min(n, batch)
			train(t, m, seg(1, 0, upTo(n)[:size]...))
			var left []api.Waiting
			for _, id := range upTo(n)[size:] {
				left = append(left, api.Waiting{ID: id, Passed: 1})
			}
			queue(t, m, left...)
		}
	}
}

func TestBatchByRank(t *testing.T) {
	m := machine(t, with(wide, func(c *api.Config) { c.Batch, c.Age = 5, 8 }))
	for i, lane := range []int{2, 0, 3, 1, 0, 3, 2, 1, 0} {
		want(t, "P6: Submit", m.Submit(100-i, lane, edits(own(100-i), "", "1")), api.OK)
	}
	pump(t, m)
	train(t, m, seg(1, 0, 99, 96, 92, 97, 93))
	queue(t, m,
		api.Waiting{ID: 100, Lane: 2, Passed: 1}, api.Waiting{ID: 94, Lane: 2, Passed: 1},
		api.Waiting{ID: 98, Lane: 3, Passed: 1}, api.Waiting{ID: 95, Lane: 3, Passed: 1})
	want(t, "P6: Submit", m.Submit(50, 0, edits("new", "", "1")), api.OK)
	answer(t, m, 1, true)
	train(t, m, seg(2, 0, 50, 100, 94, 98, 95))
	answer(t, m, 2, true)
	mainline(t, m, landed(1, 99, 96, 92, 97, 93), landed(2, 50, 100, 94, 98, 95))
}

// TestWhoIsInTheTrainWaitsNoMore: and makes room for others, but is not submitted again.
func TestWhoIsInTheTrainWaitsNoMore(t *testing.T) {
	m := machine(t, with(plain, func(c *api.Config) { c.Queue = 2 }))
	putOwn(t, m, 1, 2)
	pump(t, m)
	for id := 1; id <= 2; id++ {
		refused(t, m, "P6: Cancel, in the train", cancels(m, id), api.ErrNone)
		refused(t, m, "P6: Submit, in the train", submits(m, id, 0, some()), api.ErrTwice)
	}
	putOwn(t, m, 3, 4)
	refused(t, m, "P6: Submit, full", submits(m, 5, 0, some()), api.ErrFull)
	answer(t, m, 1, true)
	for id := 1; id <= 2; id++ {
		refused(t, m, "P6: Cancel, landed", cancels(m, id), api.ErrNone)
		refused(t, m, "P6: Submit, landed", submits(m, id, 0, some()), api.ErrTwice)
	}
	train(t, m, seg(2, 0, 3, 4))
}

// TestNobodyIsTakenWhileThereIsATrain: nor passed over.
func TestNobodyIsTakenWhileThereIsATrain(t *testing.T) {
	m := started(t, plain, 1)
	putOwn(t, m, 2, 3)
	for range 5 {
		pump(t, m)
		train(t, m, seg(1, 0, 1))
		queue(t, m, api.Waiting{ID: 2}, api.Waiting{ID: 3})
	}
	jobs(t, m, running(1, 10, []int{1}, "own1", "1"))
	want(t, "P6: Cancel", m.Cancel(2), api.OK)
	answer(t, m, 1, true)
	train(t, m, seg(2, 0, 3))
	outcomes(t, m, 1, 2, api.Withdrawn, 1, api.Landed)
}

// TestAgeing: for each Age times that a change was passed over it counts as of one lane less, down to 0.
func TestAgeing(t *testing.T) {
	for age := 1; age <= api.MaxAge; age++ {
		for lane := range api.MaxLanes {
			m := machine(t, with(wide, func(c *api.Config) { c.Age, c.Batch = age, 1 }))
			want(t, "P6: Submit", m.Submit(100, lane, edits("a", "", "1")), api.OK)
			for id := 1; id <= age*lane; id++ { // younger ones, always of lane 0
				putOwn(t, m, id)
				pump(t, m)
				train(t, m, seg(id, 0, id))
				queue(t, m, api.Waiting{ID: 100, Lane: lane, Passed: id})
				want(t, "P10: Answer", m.Answer(id, true), api.OK)
			}
			putOwn(t, m, 99)
			pump(t, m)
			train(t, m, seg(age*lane+1, 0, 100))
			queue(t, m, api.Waiting{ID: 99, Passed: 1})
		}
	}
}

// TestConflictOfTheFirst: whatever an edit misses.
func TestConflictOfTheFirst(t *testing.T) {
	for _, wrong := range [][]string{
		{"x", "", "2"},  // something is there
		{"x", "2", "3"}, // something else is there
		{"x", "2", ""},  //
		{"y", "1", "2"}, // nothing is there
		{"y", "1", ""},  //
		{"z", "", "1", "x", "1", "2", "y", "1", ""}, // of some of the edits
	} {
		m := machine(t, plain, api.File{Path: "x", Blob: "1"})
		put(t, m, 1, wrong...)
		put(t, m, 2, wrong...)
		putOwn(t, m, 3)
		put(t, m, 4, "x", "1", "4")
		pump(t, m)
		train(t, m, seg(1, 0, 3, 4))
		jobs(t, m, running(1, 10, []int{3, 4}, "own3", "1", "x", "4"))
		outcomes(t, m, 1, 1, api.Conflict, 2, api.Conflict)
		tip(t, m, api.File{Path: "x", Blob: "1"})
		mainline(t, m)
		refused(t, m, "P6: Submit, of one that had a conflict", submits(m, 1, 0, some()), api.ErrTwice)
	}
}

// TestNothingButConflicts: a segment without changes is no more, and the next ones are taken by the same Pump.
func TestNothingButConflicts(t *testing.T) {
	m := machine(t, with(plain, func(c *api.Config) { c.Batch = 2 }))
	for id := 1; id <= 5; id++ {
		put(t, m, id, "x", "1", "2")
	}
	putOwn(t, m, 6, 7, 8)
	pump(t, m)
	outcomes(t, m, 1, 1, api.Conflict, 2, api.Conflict, 3, api.Conflict, 4, api.Conflict, 5, api.Conflict)
	train(t, m, seg(1, 0, 6))
	queue(t, m, api.Waiting{ID: 7, Passed: 3}, api.Waiting{ID: 8, Passed: 3})
	m = machine(t, plain)
	put(t, m, 1, "x", "1", "2")
	pump(t, m)
	train(t, m)
	jobs(t, m)
	queue(t, m)
	outcomes(t, m, 1, 1, api.Conflict)
}

func TestConflictOfALaterOne(t *testing.T) {
	m := machine(t, eightAtOnce)
	putOwn(t, m, 1)
	put(t, m, 2, "x", "", "2")
	put(t, m, 3, "y", "", "3", "x", "", "3") // not behind 2
	put(t, m, 4, "x", "2", "4")              // behind 2, not behind 3
	put(t, m, 5, "x", "3", "5")              // behind 3 alone
	pump(t, m)
	train(t, m, seg(1, 0, 1, 2), seg(0, 0, 3, 4, 5))
	nothingToPoll(t, m)
	answer(t, m, 1, true)
	outcomes(t, m, 1, 1, api.Landed, 2, api.Landed, 3, api.Conflict)
	train(t, m, seg(2, 0, 4), seg(0, 0, 5))
	answer(t, m, 2, true)
	outcomes(t, m, 4, 4, api.Landed, 5, api.Conflict)
	mainline(t, m, landed(1, 1, 2), landed(2, 4))
	tip(t, m, api.File{Path: "own1", Blob: "1"}, api.File{Path: "x", Blob: "4"})
}

// TestConflictWithALaterOneGone: what the tip has is not what the one ahead would have made.
func TestConflictWithALaterOneGone(t *testing.T) {
	m := machine(t, plain)
	put(t, m, 1, "x", "", "1")
	put(t, m, 2, "x", "1", "2")
	put(t, m, 3, "x", "", "3")
	pump(t, m)
	train(t, m, seg(1, 0, 1, 2), seg(0, 0, 3))
	answer(t, m, 1, false)
	train(t, m, seg(2, 0, 1), seg(0, 0, 2), seg(0, 0, 3))
	answer(t, m, 2, false)
	train(t, m, seg(3, 0, 3))
	jobs(t, m, running(3, 10, []int{3}, "x", "3"))
	outcomes(t, m, 1, 1, api.Failed, 2, api.Conflict)
	answer(t, m, 3, true)
	tip(t, m, api.File{Path: "x", Blob: "3"})
}

// TestSplitAheadOfOthers: what is cut off the first segment stands behind it, and ahead of all others.
func TestSplitAheadOfOthers(t *testing.T) {
	m := machine(t, eightAtOnce)
	put(t, m, 1, "x", "", "1")
	putOwn(t, m, 2, 3)
	put(t, m, 4, "x", "1", "4")
	putOwn(t, m, 5, 6, 7, 8)
	pump(t, m)
	answer(t, m, 1, false)
	train(t, m, seg(2, 0, 1, 2, 3, 4), seg(0, 0, 5, 6, 7, 8))
	answer(t, m, 2, false)
	train(t, m, seg(3, 0, 1, 2), seg(0, 0, 3, 4), seg(0, 0, 5, 6, 7, 8))
	answer(t, m, 3, false)
	train(t, m, seg(4, 0, 1), seg(0, 0, 2), seg(0, 0, 3, 4), seg(0, 0, 5, 6, 7, 8))
	answer(t, m, 4, false)
	train(t, m, seg(5, 0, 2), seg(0, 0, 3, 4), seg(0, 0, 5, 6, 7, 8))
	answer(t, m, 5, true)
	train(t, m, seg(6, 0, 3), seg(0, 0, 4), seg(0, 0, 5, 6, 7, 8)) // 4 misses what 1 would have made
	answer(t, m, 6, true)
	train(t, m, seg(7, 0, 5, 6, 7, 8))
	outcomes(t, m, 1, 1, api.Failed, 2, api.Landed, 3, api.Landed, 4, api.Conflict)
	mainline(t, m, landed(5, 2), landed(6, 3))
}

// TestFirstOfASegmentGone: the others go on, ahead of the segments behind them.
func TestFirstOfASegmentGone(t *testing.T) {
	m := machine(t, eightAtOnce)
	put(t, m, 1, "x", "", "1")
	putOwn(t, m, 2)
	put(t, m, 3, "x", "1", "3")
	putOwn(t, m, 4, 5, 6, 7, 8)
	pump(t, m)
	for job := 1; job <= 4; job++ {
		answer(t, m, job, false)
	}
	train(t, m, seg(5, 0, 2), seg(0, 0, 3, 4), seg(0, 0, 5, 6, 7, 8))
	answer(t, m, 5, true)
	train(t, m, seg(6, 0, 4), seg(0, 0, 5, 6, 7, 8))
	outcomes(t, m, 1, 1, api.Failed, 2, api.Landed, 3, api.Conflict)
	answer(t, m, 6, true)
	train(t, m, seg(7, 0, 5, 6, 7, 8))
}

func TestLanding(t *testing.T) {
	m := machine(t, plain, api.File{Path: "gone", Blob: "1"}, api.File{Path: "other", Blob: "1"}, api.File{Path: "stays", Blob: "1"})
	put(t, m, 3, "gone", "1", "", "made", "", "3")
	put(t, m, 1, "other", "1", "1b")
	put(t, m, 2, "made", "3", "2", "other", "1b", "2")
	pump(t, m)
	jobs(t, m, running(1, 10, []int{3, 1, 2}, "made", "2", "other", "2", "stays", "1"))
	want(t, "P10: Answer", m.Answer(1, true), api.OK)
	train(t, m, passed(0, 3, 1, 2))
	nothingToPoll(t, m) // it is the Pump that lands
	mainline(t, m)
	tip(t, m, api.File{Path: "gone", Blob: "1"}, api.File{Path: "other", Blob: "1"}, api.File{Path: "stays", Blob: "1"})
	pump(t, m)
	train(t, m)
	tip(t, m, api.File{Path: "made", Blob: "2"}, api.File{Path: "other", Blob: "2"}, api.File{Path: "stays", Blob: "1"})
	mainline(t, m, landed(1, 3, 1, 2))
	outcomes(t, m, 1, 3, api.Landed, 1, api.Landed, 2, api.Landed)
	// what lands next is held against the new tip, also behind a crash
	put(t, m, 4, "gone", "1", "")
	put(t, m, 5, "made", "2", "")
	recoverCrashed(t, m)
	tip(t, m, api.File{Path: "made", Blob: "2"}, api.File{Path: "other", Blob: "2"}, api.File{Path: "stays", Blob: "1"})
	pump(t, m)
	answer(t, m, 2, true)
	outcomes(t, m, 4, 4, api.Conflict, 5, api.Landed)
	tip(t, m, api.File{Path: "other", Blob: "2"}, api.File{Path: "stays", Blob: "1"})
	recoverCrashed(t, m)
	tip(t, m, api.File{Path: "other", Blob: "2"}, api.File{Path: "stays", Blob: "1"})
	mainline(t, m, landed(1, 3, 1, 2), landed(2, 5))
}

// TestLandingToNoFile: the last file goes.
func TestLandingToNoFile(t *testing.T) {
	m := machine(t, plain, api.File{Path: "x", Blob: "1"})
	put(t, m, 1, "x", "1", "")
	pump(t, m)
	jobs(t, m, running(1, 10, []int{1}))
	answer(t, m, 1, true)
	tip(t, m)
	mainline(t, m, landed(1, 1))
}

// TestLandingOneBehindTheOther: all that has passed lands by one Pump, which takes the next batch too.
func TestLandingOneBehindTheOther(t *testing.T) {
	m := started(t, with(plain, func(c *api.Config) { c.Window = 4 }), 1, 2, 3, 4)
	putOwn(t, m, 5, 6)
	answer(t, m, 1, false)
	answer(t, m, 2, false)
	train(t, m, seg(4, 0, 1), seg(5, 0, 2), seg(6, 0, 3, 4))
	for _, job := range []int{6, 5, 4} {
		want(t, "P10: Answer", m.Answer(job, true), api.OK)
		if job != 4 {
			pump(t, m) // nothing lands ahead of the first
		}
	}
	train(t, m, passed(0, 1), passed(0, 2), passed(0, 3, 4))
	mainline(t, m)
	pump(t, m)
	mainline(t, m, landed(4, 1), landed(5, 2), landed(6, 3, 4))
	outcomes(t, m, 1, 1, api.Landed, 2, api.Landed, 3, api.Landed, 4, api.Landed)
	train(t, m, seg(7, 0, 5, 6))
	queue(t, m)
}

func TestHalves(t *testing.T) {
	for n := 2; n <= api.MaxBatch; n++ {
		m := started(t, eightAtOnce, upTo(n)...)
		answer(t, m, 1, false)
		half := n - n/2
		train(t, m, seg(2, 0, upTo(n)[:half]...), seg(0, 0, upTo(n)[half:]...))
		nothingToPoll(t, m)
	}
}

func TestFailed(t *testing.T) {
	m := started(t, plain, 1)
	putOwn(t, m, 2)
	want(t, "P10: Answer", m.Answer(1, false), api.OK)
	train(t, m, seg(0, 1, 1))
	nothingToPoll(t, m) // it is the Pump that tells it from the others
	pump(t, m)
	outcomes(t, m, 1, 1, api.Failed)
	train(t, m, seg(2, 0, 2)) // the next one is taken by the same Pump
	tip(t, m)
	mainline(t, m)
	refused(t, m, "P6: Submit, of one that has failed", submits(m, 1, 0, some()), api.ErrTwice)
}

func TestRetries(t *testing.T) {
	for retries := 0; retries <= api.MaxRetries; retries++ {
		c := with(plain, func(c *api.Config) { c.Retries = retries })
		m, late := started(t, c, 1, 2), started(t, c, 1, 2)
		for job := 1; job <= retries; job++ {
			answer(t, m, job, false)
			answer(t, late, job, false)
			train(t, m, seg(job+1, job, 1, 2))
			jobs(t, m, running(job+1, 10, []int{1, 2}, "own1", "1", "own2", "1"))
		}
		answer(t, m, retries+1, false)
		train(t, m, seg(retries+2, 0, 1), seg(0, 0, 2)) // each half may fail as often again
		for n := 1; n <= retries; n++ {
			answer(t, m, retries+1+n, false)
			train(t, m, seg(retries+2+n, n, 1), seg(0, 0, 2))
			nothingToPoll(t, m)
		}
		answer(t, m, 2*retries+2, false)
		outcomes(t, m, 1, 1, api.Failed)
		train(t, m, seg(2*retries+3, 0, 2))
		// the last one of them passes: that is enough
		want(t, "P10: Answer", late.Answer(retries+1, true), api.OK)
		train(t, late, passed(retries, 1, 2))
		pump(t, late)
		mainline(t, late, landed(retries+1, 1, 2))
	}
}

// TestAllAreNew: when the first segment has failed too often, nothing stays of what was tested behind it.
func TestAllAreNew(t *testing.T) {
	// it is halved
	m := started(t, with(eightAtOnce, func(c *api.Config) { c.Window, c.Retries = 4, 1 }), upTo(8)...)
	for _, job := range []int{1, 2, 3, 5} {
		answer(t, m, job, false)
	}
	train(t, m, seg(6, 0, 1, 2), seg(7, 0, 3, 4), seg(8, 0, 5, 6, 7, 8))
	want(t, "P10: Answer", m.Answer(7, true), api.OK)
	want(t, "P10: Answer", m.Answer(8, false), api.OK)
	answer(t, m, 6, false)
	train(t, m, seg(9, 1, 1, 2), passed(0, 3, 4), seg(10, 1, 5, 6, 7, 8))
	answer(t, m, 9, false)
	train(t, m, seg(11, 0, 1), seg(12, 0, 2), seg(13, 0, 3, 4), seg(14, 0, 5, 6, 7, 8))
	refused(t, m, "P10: Answer, of a job that was dropped", answers(m, 10, true), api.ErrJob)
	nothingToPoll(t, m)
	// it is no more
	want(t, "P10: Answer", m.Answer(12, true), api.OK)
	want(t, "P10: Answer", m.Answer(13, false), api.OK)
	answer(t, m, 11, false)
	train(t, m, seg(15, 1, 1), passed(0, 2), seg(16, 1, 3, 4), seg(14, 0, 5, 6, 7, 8))
	answer(t, m, 15, false)
	train(t, m, seg(17, 0, 2), seg(18, 0, 3, 4), seg(19, 0, 5, 6, 7, 8))
	outcomes(t, m, 1, 1, api.Failed)
	for _, job := range []int{12, 14, 16} {
		refused(t, m, "P10: Answer, of a job that was dropped", answers(m, job, true), api.ErrJob)
	}
}
