package shunt_test

import (
	"math"
	"testing"

	"shunt/api"
	"shunt/shunt"
)

func answers(m *shunt.Machine, job int, pass bool) func() api.Errno {
	return func() api.Errno { return m.Answer(job, pass) }
}

func ticks(m *shunt.Machine, n int) func() api.Errno {
	return func() api.Errno { return m.Tick(n) }
}

// halved: a train of (1) (2) (3 4) (5 6 7 8), all new but for their jobs, and the number of the first one's job.
func halved(t *testing.T, window int) (*shunt.Machine, int) {
	t.Helper()
	m := started(t, with(eightAtOnce, func(c *api.Config) { c.Window = window }), upTo(8)...)
	job := 1
	for segments := 1; segments <= 3; segments++ {
		answer(t, m, job, false)
		job += min(segments, window)
	}
	return m, job
}

// lenient: a train of (1) (2) (3 4), all new but for their jobs 6, 7, 8; each may fail once.
func lenient(t *testing.T) *shunt.Machine {
	t.Helper()
	m := started(t, with(plain, func(c *api.Config) { c.Window, c.Retries = 3, 1 }), 1, 2, 3, 4)
	for _, job := range []int{1, 2, 3, 5} {
		answer(t, m, job, false)
	}
	train(t, m, seg(6, 0, 1), seg(7, 0, 2), seg(8, 0, 3, 4))
	return m
}

// ownFiles: what changes of different paths make, path and text by turns.
func ownFiles(ids ...int) []string {
	var l []string
	for _, id := range ids {
		l = append(l, own(id), "1")
	}
	return l
}

func TestWindow(t *testing.T) {
	for window := 1; window <= api.MaxWindow; window++ {
		m, job := halved(t, window)
		wanted := []api.Segment{seg(0, 0, 1), seg(0, 0, 2), seg(0, 0, 3, 4), seg(0, 0, 5, 6, 7, 8)}
		var begun []api.Job
		for i, all := range []int{1, 2, 4, 8}[:window] {
			wanted[i].Job = job + i
			begun = append(begun, running(job+i, 10, upTo(all), ownFiles(upTo(all)...)...))
		}
		train(t, m, wanted...)
		jobs(t, m, begun...)
		// what is running is not begun again
		pump(t, m)
		pump(t, m)
		train(t, m, wanted...)
		jobs(t, m, begun...)
		// the window goes on with the first segment
		answer(t, m, job, true)
		wanted = wanted[1:]
		if window <= 3 {
			wanted[window-1].Job = job + window
		}
		train(t, m, wanted...)
	}
}

// TestWindowIsOfSegments: also of those that have passed.
func TestWindowIsOfSegments(t *testing.T) {
	m, job := halved(t, 2)
	answer(t, m, job+1, true)
	train(t, m, seg(job, 0, 1), passed(0, 2), seg(0, 0, 3, 4), seg(0, 0, 5, 6, 7, 8))
	pump(t, m)
	jobs(t, m, running(job, 10, upTo(1), ownFiles(1)...))
	answer(t, m, job, true)
	train(t, m, seg(job+2, 0, 3, 4), seg(job+3, 0, 5, 6, 7, 8))
	mainline(t, m, landed(job, 1), landed(job+1, 2))
}

// TestPassedIsNotTestedAgain: but what stands behind it is tested on.
func TestPassedIsNotTestedAgain(t *testing.T) {
	m, job := halved(t, 3)
	answer(t, m, job+1, true)
	train(t, m, seg(job, 0, 1), passed(0, 2), seg(job+2, 0, 3, 4), seg(0, 0, 5, 6, 7, 8))
	jobs(t, m, running(job, 10, upTo(1), ownFiles(1)...), running(job+2, 10, upTo(4), ownFiles(upTo(4)...)...))
}

// TestFailedTooOftenAheadOfTime: nothing behind it is begun, and itself neither; what is running goes on.
func TestFailedTooOftenAheadOfTime(t *testing.T) {
	m, job := halved(t, 3)
	answer(t, m, job+1, false)
	train(t, m, seg(job, 0, 1), seg(0, 1, 2), seg(job+2, 0, 3, 4), seg(0, 0, 5, 6, 7, 8))
	want(t, "P10: Answer", m.Answer(job+2, false), api.OK)
	pump(t, m)
	train(t, m, seg(job, 0, 1), seg(0, 1, 2), seg(0, 1, 3, 4), seg(0, 0, 5, 6, 7, 8))
	// behind the first one's landing it is the culprit, and all others are new
	answer(t, m, job, true)
	train(t, m, seg(job+3, 0, 3, 4), seg(job+4, 0, 5, 6, 7, 8))
	outcomes(t, m, 1, 1, api.Landed, 2, api.Failed)
	// a job that is running behind one that has failed is dropped with it
	m, job = halved(t, 3)
	answer(t, m, job+1, false)
	answer(t, m, job, true)
	train(t, m, seg(job+3, 0, 3, 4), seg(job+4, 0, 5, 6, 7, 8))
	refused(t, m, "P10: Answer, of a job that was dropped", answers(m, job+2, true), api.ErrJob)
}

// TestTriedAgainAheadOfTime: as long as it has not failed too often; what stands behind it is tested on.
func TestTriedAgainAheadOfTime(t *testing.T) {
	m := lenient(t)
	want(t, "P10: Answer", m.Answer(7, false), api.OK)
	want(t, "P10: Answer", m.Answer(8, false), api.OK)
	train(t, m, seg(6, 0, 1), seg(0, 1, 2), seg(0, 1, 3, 4))
	pump(t, m)
	train(t, m, seg(6, 0, 1), seg(9, 1, 2), seg(10, 1, 3, 4))
	// jobs are told by their numbers, not by their segments
	answer(t, m, 6, false)
	train(t, m, seg(11, 1, 1), seg(9, 1, 2), seg(10, 1, 3, 4))
	jobs(t, m,
		running(9, 10, []int{1, 2}, ownFiles(1, 2)...),
		running(10, 10, []int{1, 2, 3, 4}, ownFiles(1, 2, 3, 4)...),
		running(11, 10, []int{1}, ownFiles(1)...))
	answer(t, m, 9, false)
	train(t, m, seg(11, 1, 1), seg(0, 2, 2), seg(10, 1, 3, 4))
	answer(t, m, 11, true)
	train(t, m, seg(12, 0, 3, 4))
	outcomes(t, m, 1, 1, api.Landed, 2, api.Failed)
	mainline(t, m, landed(11, 1))
}

// TestConflictAheadOfTime: nothing is begun of a segment that does not apply behind those ahead of it, nor behind it.
func TestConflictAheadOfTime(t *testing.T) {
	m := machine(t, with(eightAtOnce, func(c *api.Config) { c.Window = 4 }))
	putOwn(t, m, 1)
	put(t, m, 2, "x", "", "2")
	putOwn(t, m, 3)
	put(t, m, 4, "x", "", "4")
	putOwn(t, m, 5)
	pump(t, m)
	train(t, m, seg(1, 0, 1, 2, 3), seg(0, 0, 4, 5))
	answer(t, m, 1, false)
	train(t, m, seg(2, 0, 1, 2), seg(3, 0, 3), seg(0, 0, 4, 5))
	answer(t, m, 2, false)
	train(t, m, seg(4, 0, 1), seg(5, 0, 2), seg(6, 0, 3), seg(0, 0, 4, 5))
	answer(t, m, 4, true)
	answer(t, m, 5, false)
	outcomes(t, m, 1, 1, api.Landed, 2, api.Failed)
	train(t, m, seg(7, 0, 3), seg(8, 0, 4, 5)) // without 2 it applies
	jobs(t, m,
		running(7, 10, []int{3}, "own1", "1", "own3", "1"),
		running(8, 10, []int{3, 4, 5}, "own1", "1", "own3", "1", "own5", "1", "x", "4"))
	// not only its first change counts
	m = machine(t, with(plain, func(c *api.Config) { c.Window = 4 }))
	put(t, m, 1, "x", "", "1")
	putOwn(t, m, 2, 3)
	put(t, m, 4, "x", "1", "4")
	pump(t, m)
	answer(t, m, 1, false)
	answer(t, m, 2, false)
	train(t, m, seg(4, 0, 1), seg(5, 0, 2), seg(6, 0, 3, 4))
	answer(t, m, 4, false)
	train(t, m, seg(7, 0, 2), seg(0, 0, 3, 4))
	answer(t, m, 7, true)
	train(t, m, seg(8, 0, 3), seg(0, 0, 4))
}

// TestJobAheadGoesOn: with its number and its tree; the ids are what its tree has beyond the tip's.
func TestJobAheadGoesOn(t *testing.T) {
	m, job := halved(t, 4)
	tick(t, m, 3)
	answer(t, m, job, true)
	answer(t, m, job+1, true)
	jobs(t, m,
		running(job+2, 10, []int{3, 4}, ownFiles(upTo(4)...)...),
		running(job+3, 10, []int{3, 4, 5, 6, 7, 8}, ownFiles(upTo(8)...)...))
	answer(t, m, job+3, true)
	answer(t, m, job+2, true)
	mainline(t, m, landed(job, 1), landed(job+1, 2), landed(job+2, 3, 4), landed(job+3, 5, 6, 7, 8))
}

func TestUntil(t *testing.T) {
	for _, deadline := range []int{1, 2, 7, api.MaxDeadline} {
		m := machine(t, with(plain, func(c *api.Config) { c.Deadline = deadline }))
		now := 0
		for i, n := range []int{1, api.MaxTick, 5} {
			tick(t, m, n)
			now += n
			putOwn(t, m, i+1)
			pump(t, m)
			jobs(t, m, running(i+1, now+deadline, []int{i + 1}, ownFiles(upTo(i+1)...)...))
			answer(t, m, i+1, true)
		}
	}
}

func TestTimeComes(t *testing.T) {
	m := started(t, with(plain, func(c *api.Config) { c.Retries = 1 }), 1, 2)
	tick(t, m, 9)
	train(t, m, seg(1, 0, 1, 2))
	tick(t, m, 1)
	train(t, m, seg(0, 1, 1, 2)) // until 10 is not above 10
	jobs(t, m)
	refused(t, m, "P10: Answer, of a job whose time has come", answers(m, 1, true), api.ErrJob)
	tick(t, m, 1000)
	train(t, m, seg(0, 1, 1, 2)) // once for a job
	pump(t, m)
	jobs(t, m, running(2, 1020, []int{1, 2}, ownFiles(1, 2)...))
	tick(t, m, 1000)
	train(t, m, seg(0, 2, 1, 2)) // long gone
	nothingToPoll(t, m)
	pump(t, m)
	train(t, m, seg(3, 0, 1), seg(0, 0, 2))
	tick(t, m, 10)
	pump(t, m)
	tick(t, m, 10)
	pump(t, m)
	outcomes(t, m, 1, 1, api.Failed)
	train(t, m, seg(5, 0, 2))
}

// TestTimeComesToSome: and not to those that were begun later.
func TestTimeComesToSome(t *testing.T) {
	m := lenient(t)
	tick(t, m, 4)
	answer(t, m, 7, false)
	train(t, m, seg(6, 0, 1), seg(9, 1, 2), seg(8, 0, 3, 4))
	want(t, "P10: Answer", m.Answer(8, true), api.OK)
	tick(t, m, 6)
	train(t, m, seg(0, 1, 1), seg(9, 1, 2), passed(0, 3, 4))
	jobs(t, m, running(9, 14, []int{1, 2}, ownFiles(1, 2)...))
	pump(t, m)
	tick(t, m, 4)
	train(t, m, seg(10, 1, 1), seg(0, 2, 2), passed(0, 3, 4))
	tick(t, m, 6)
	train(t, m, seg(0, 2, 1), seg(0, 2, 2), passed(0, 3, 4))
	// several at once
	m, _ = halved(t, 4)
	tick(t, m, 10)
	train(t, m, seg(0, 1, 1), seg(0, 1, 2), seg(0, 1, 3, 4), seg(0, 1, 5, 6, 7, 8))
}

func TestTicks(t *testing.T) {
	m := started(t, plain, 1)
	for _, n := range []int{math.MinInt, -1000, -1, 0, api.MaxTick + 1, 1<<32 + 1, math.MaxInt} {
		refused(t, m, "P10: Tick", ticks(m, n), api.ErrTick)
	}
	jobs(t, m, running(1, 10, []int{1}, ownFiles(1)...))
	tick(t, m, api.MaxTick)
	jobs(t, m)
}

func TestAnswersOfNoJob(t *testing.T) {
	m := machine(t, with(plain, func(c *api.Config) { c.Window = 2 }))
	none := func(wrong ...int) {
		t.Helper()
		for _, job := range append(wrong, math.MinInt, -1, 0, 99, 1<<32+1, math.MaxInt) {
			refused(t, m, "P10: Answer, of no job that is running", answers(m, job, true), api.ErrJob)
			refused(t, m, "P10: Answer, of no job that is running", answers(m, job, false), api.ErrJob)
		}
	}
	none(1)
	putOwn(t, m, 1, 2, 3, 4)
	none(1) // not yet begun
	pump(t, m)
	none(2)
	want(t, "P10: Answer", m.Answer(1, false), api.OK)
	none(1, 2) // a segment without a job
	pump(t, m)
	train(t, m, seg(2, 0, 1, 2), seg(3, 0, 3, 4))
	none(1, 4)
	want(t, "P10: Answer", m.Answer(3, true), api.OK)
	none(1, 3, 4) // it has passed
	train(t, m, seg(2, 0, 1, 2), passed(0, 3, 4))
	want(t, "P10: Answer", m.Answer(2, true), api.OK)
	none(1, 2, 3, 4)
	pump(t, m)
	none(1, 2, 3, 4) // landed
	mainline(t, m, landed(2, 1, 2), landed(3, 3, 4))
}

// TestWhatARecoverKeeps: fails, passes and the time stay; jobs and they alone are lost; numbers go on.
func TestWhatARecoverKeeps(t *testing.T) {
	m := lenient(t)
	tick(t, m, 2)
	want(t, "P10: Answer", m.Answer(7, true), api.OK)
	want(t, "P10: Answer", m.Answer(8, false), api.OK)
	train(t, m, seg(6, 0, 1), passed(0, 2), seg(0, 1, 3, 4))
	recoverCrashed(t, m)
	train(t, m, seg(0, 0, 1), passed(0, 2), seg(0, 1, 3, 4))
	jobs(t, m)
	recoverCrashed(t, m)
	tick(t, m, 20) // what was lost does not run out of time
	train(t, m, seg(0, 0, 1), passed(0, 2), seg(0, 1, 3, 4))
	pump(t, m)
	train(t, m, seg(9, 0, 1), passed(0, 2), seg(10, 1, 3, 4))
	jobs(t, m, running(9, 32, []int{1}, ownFiles(1)...), running(10, 32, upTo(4), ownFiles(upTo(4)...)...))
	answer(t, m, 9, true)
	mainline(t, m, landed(9, 1), landed(7, 2))
	answer(t, m, 10, false)
	recoverCrashed(t, m)
	train(t, m, seg(0, 0, 3), seg(0, 0, 4))
	mainline(t, m, landed(9, 1), landed(7, 2))
	outcomes(t, m, 1, 1, api.Landed, 2, api.Landed)
	pump(t, m)
	train(t, m, seg(13, 0, 3), seg(14, 0, 4))
}

// TestJobsOfARecordDoneAgain: the jobs of a Pump that broke, but whose record is whole, were begun and lost.
func TestJobsOfARecordDoneAgain(t *testing.T) {
	for keep, next := range map[int]int{0: 1, 8: 1, 9: 2, 10: 2} {
		m := machine(t, plain)
		putOwn(t, m, 1, 2)
		want(t, "P13: Break", m.Break(keep), api.OK)
		want(t, "P8: Pump that breaks", m.Pump(), api.ErrDown)
		want(t, "P13: Recover", m.Recover(), api.OK)
		jobs(t, m)
		if next == 1 {
			train(t, m)
			queue(t, m, api.Waiting{ID: 1}, api.Waiting{ID: 2})
		} else {
			train(t, m, seg(0, 0, 1, 2))
			queue(t, m)
		}
		pump(t, m)
		train(t, m, seg(next, 0, 1, 2))
	}
}
