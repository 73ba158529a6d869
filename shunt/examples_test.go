package shunt_test

import (
	"testing"

	"shunt/api"
)

// The document's examples; the seventh one stands with the tests of the journal.

func TestExample1(t *testing.T) {
	m := machine(t, plain)
	put(t, m, 7, "x", "", "1")
	pump(t, m)
	queue(t, m)
	train(t, m, seg(1, 0, 7))
	jobs(t, m, running(1, 10, []int{7}, "x", "1"))
	tip(t, m)
	mainline(t, m)
	answer(t, m, 1, true)
	tip(t, m, api.File{Path: "x", Blob: "1"})
	mainline(t, m, landed(1, 7))
	train(t, m)
	jobs(t, m)
	poll(t, m, 1, 7, api.Landed)
	outcomes(t, m, 1, 7, api.Landed)
}

func TestExample2(t *testing.T) {
	m := machine(t, plain)
	putOwn(t, m, 1, 2, 3, 4)
	pump(t, m)
	train(t, m, seg(1, 0, 1, 2, 3, 4))
	answer(t, m, 1, false)
	train(t, m, seg(2, 0, 1, 2), seg(0, 0, 3, 4))
	jobs(t, m, running(2, 10, []int{1, 2}, "own1", "1", "own2", "1"))
	answer(t, m, 2, true)
	train(t, m, seg(3, 0, 3, 4))
	jobs(t, m, running(3, 10, []int{3, 4}, "own1", "1", "own2", "1", "own3", "1", "own4", "1"))
	answer(t, m, 3, false)
	train(t, m, seg(4, 0, 3), seg(0, 0, 4))
	answer(t, m, 4, false)
	train(t, m, seg(5, 0, 4))
	jobs(t, m, running(5, 10, []int{4}, "own1", "1", "own2", "1", "own4", "1"))
	outcomes(t, m, 1, 1, api.Landed, 2, api.Landed, 3, api.Failed)
	mainline(t, m, landed(2, 1, 2))
}

func TestExample3(t *testing.T) {
	for _, pass := range []bool{true, false} {
		m := machine(t, with(plain, func(c *api.Config) { c.Window = 2 }))
		putOwn(t, m, 1, 2, 3, 4)
		pump(t, m)
		answer(t, m, 1, false)
		train(t, m, seg(2, 0, 1, 2), seg(3, 0, 3, 4))
		ahead := running(3, 10, []int{1, 2, 3, 4}, "own1", "1", "own2", "1", "own3", "1", "own4", "1")
		jobs(t, m, running(2, 10, []int{1, 2}, "own1", "1", "own2", "1"), ahead)
		answer(t, m, 2, pass)
		if pass {
			train(t, m, seg(3, 0, 3, 4))
			ahead.IDs = []int{3, 4} // what its tree has beyond the tip's
			jobs(t, m, ahead)
			continue
		}
		train(t, m, seg(4, 0, 1), seg(5, 0, 2), seg(0, 0, 3, 4))
		refused(t, m, "P10: Answer, of a job that was dropped", answers(m, 3, true), api.ErrJob)
	}
}

func TestExample4(t *testing.T) {
	m := machine(t, plain)
	put(t, m, 1, "x", "", "1")
	put(t, m, 2, "x", "", "2")
	pump(t, m)
	train(t, m, seg(1, 0, 1), seg(0, 0, 2))
	jobs(t, m, running(1, 10, []int{1}, "x", "1"))
	nothingToPoll(t, m)
	answer(t, m, 1, true)
	train(t, m)
	outcomes(t, m, 1, 1, api.Landed, 2, api.Conflict)
	tip(t, m, api.File{Path: "x", Blob: "1"})
}

func TestExample5(t *testing.T) {
	m := machine(t, with(plain, func(c *api.Config) { c.Lanes, c.Age, c.Batch = 2, 2, 1 }))
	want(t, "P6: Submit", m.Submit(100, 1, edits("a", "", "1")), api.OK)
	for id := 1; id <= 3; id++ {
		putOwn(t, m, id)
		pump(t, m)
		if id < 3 {
			train(t, m, seg(id, 0, id))
			queue(t, m, api.Waiting{ID: 100, Lane: 1, Passed: id})
		}
		want(t, "P10: Answer", m.Answer(id, true), api.OK)
	}
	queue(t, m, api.Waiting{ID: 3, Passed: 1})
	mainline(t, m, landed(1, 1), landed(2, 2))
	train(t, m, passed(0, 100))
}

func TestExample6(t *testing.T) {
	m := machine(t, plain)
	putOwn(t, m, 1, 2)
	pump(t, m)
	train(t, m, seg(1, 0, 1, 2))
	recoverCrashed(t, m)
	jobs(t, m)
	train(t, m, seg(0, 0, 1, 2))
	refused(t, m, "P10: Answer, of a job that was lost", answers(m, 1, true), api.ErrJob)
	pump(t, m)
	train(t, m, seg(2, 0, 1, 2))
	jobs(t, m, running(2, 10, []int{1, 2}, "own1", "1", "own2", "1"))
}
