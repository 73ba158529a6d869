package shunt_test

import (
	"math"
	"testing"

	"shunt/api"
	"shunt/shunt"
)

// wrongEdits: edits that may not be.
var wrongEdits = [][]api.Edit{
	nil,
	{},
	edits("", "", "1"),
	edits("123456789", "", "1"),
	edits("x", "123456789", "1"),
	edits("x", "", "123456789"),
	edits("x", "1", "1"),
	edits("x", "", ""),
	edits("x", "", "1", "y", "", "1", "x", "1", "2"),
	edits("a", "", "1", "b", "", "1", "c", "", "1", "d", "", "1", "e", "", "1"),
	make([]api.Edit, 257),
}

func submits(m *shunt.Machine, id, lane int, e []api.Edit) func() api.Errno {
	return func() api.Errno { return m.Submit(id, lane, e) }
}

func cancels(m *shunt.Machine, id int) func() api.Errno {
	return func() api.Errno { return m.Cancel(id) }
}

func TestSubmitIDs(t *testing.T) {
	m := machine(t, plain)
	for _, id := range []int{math.MinInt, -1, 0, api.MaxID + 1, 1<<32 + 1, math.MaxInt} {
		refused(t, m, "P6: Submit", submits(m, id, 0, some()), api.ErrChange)
	}
	submit(t, m, api.MaxID, 0)
	submit(t, m, 1, 0)
	queue(t, m, api.Waiting{ID: api.MaxID}, api.Waiting{ID: 1})
}

func TestSubmitLanes(t *testing.T) {
	for lanes := 1; lanes <= api.MaxLanes; lanes++ {
		c := wide
		c.Lanes = lanes
		m := machine(t, c)
		for _, lane := range []int{math.MinInt, -1, lanes, api.MaxLanes, 256, 1 << 32, math.MaxInt} {
			refused(t, m, "P6: Submit", submits(m, 1, lane, some()), api.ErrChange)
		}
		submit(t, m, 1, lanes-1)
		submit(t, m, 2, 0)
	}
}

func TestSubmitEdits(t *testing.T) {
	m := machine(t, plain, api.File{Path: "x", Blob: "1"})
	for _, e := range wrongEdits {
		refused(t, m, "P6: Submit", submits(m, 1, 0, e), api.ErrChange)
	}
	// whether they apply is not asked here
	want(t, "P6: Submit", m.Submit(1, 0, edits("x", "7", "1")), api.OK)
	want(t, "P6: Submit", m.Submit(2, 0, edits("x", "", "1")), api.OK)
	want(t, "P6: Submit", m.Submit(3, 0, edits("12345678", "12345678", "", "b", "", "12345678", "c", "", "1", "d", "1", "")), api.OK)
	tip(t, m, api.File{Path: "x", Blob: "1"})
}

func TestSubmitTwice(t *testing.T) {
	m := machine(t, wide)
	submit(t, m, 7, 1)
	twice := func(when string) {
		t.Helper()
		refused(t, m, "P6: Submit twice, "+when, submits(m, 7, 1, some()), api.ErrTwice)
		refused(t, m, "P6: Submit twice, another lane and other edits, "+when, submits(m, 7, 0, edits("y", "1", "")), api.ErrTwice)
		refused(t, m, "P1: Submit twice, and a wrong lane, "+when, submits(m, 7, 4, some()), api.ErrChange)
	}
	twice("waiting")
	want(t, "P6: Cancel", m.Cancel(7), api.OK)
	twice("withdrawn")
	want(t, "P11: Ack", m.Ack(1), api.OK)
	twice("withdrawn and acknowledged")
	want(t, "P13: Crash", m.Crash(), api.OK)
	want(t, "P13: Recover", m.Recover(), api.OK)
	twice("and recovered")
	submit(t, m, 8, 0)
}

// TestRefusedIsNotSubmitted: a Submit with an error was none.
func TestRefusedIsNotSubmitted(t *testing.T) {
	c := plain
	c.Queue = 1
	m := machine(t, c)
	refused(t, m, "P6: Submit", submits(m, 2, 1, some()), api.ErrChange)
	refused(t, m, "P6: Submit", submits(m, 2, 0, nil), api.ErrChange)
	submit(t, m, 1, 0)
	refused(t, m, "P6: Submit", submits(m, 2, 0, some()), api.ErrFull)
	want(t, "P6: Cancel", m.Cancel(1), api.OK)
	submit(t, m, 2, 0)
}

func TestFull(t *testing.T) {
	for most := 1; most <= api.MaxQueue; most++ {
		c := plain
		c.Queue = most
		m := machine(t, c)
		for id := 1; id <= most; id++ {
			submit(t, m, id, 0)
		}
		refused(t, m, "P6: Submit, full", submits(m, 100, 0, some()), api.ErrFull)
		refused(t, m, "P1: Submit, full, and twice", submits(m, most, 0, some()), api.ErrTwice)
		refused(t, m, "P1: Submit, full, and no change", submits(m, 100, 0, nil), api.ErrChange)
		want(t, "P6: Cancel", m.Cancel(1), api.OK)
		refused(t, m, "P6: Submit, of one that waits no more", submits(m, 1, 0, some()), api.ErrTwice)
		submit(t, m, 100, 0)
		refused(t, m, "P6: Submit, full again", submits(m, 101, 0, some()), api.ErrFull)
	}
}

func TestCancel(t *testing.T) {
	m := machine(t, wide)
	refused(t, m, "P6: Cancel, nobody waits", cancels(m, 1), api.ErrNone)
	for id := 1; id <= 5; id++ {
		submit(t, m, id, 0)
	}
	for _, id := range []int{math.MinInt, -1, 0, 6, api.MaxID + 1, 1<<32 + 1, math.MaxInt} {
		refused(t, m, "P6: Cancel, of none", cancels(m, id), api.ErrNone)
	}
	for _, id := range []int{3, 1, 5} { // in the middle, the first, the last
		want(t, "P6: Cancel", m.Cancel(id), api.OK)
		refused(t, m, "P6: Cancel twice", cancels(m, id), api.ErrNone)
	}
	queue(t, m, api.Waiting{ID: 2}, api.Waiting{ID: 4})
	for i, id := range []int{3, 1, 5} {
		poll(t, m, i+1, id, api.Withdrawn)
		want(t, "P11: Ack", m.Ack(i+1), api.OK)
	}
	nothingToPoll(t, m)
	refused(t, m, "P6: Cancel, acknowledged", cancels(m, 3), api.ErrNone)
}

func TestWhoWaitsByRank(t *testing.T) {
	m := machine(t, wide)
	for i, lane := range []int{2, 0, 3, 1, 0, 3, 2, 1, 0} {
		submit(t, m, 100-i, lane) // falling, so that ids do not order them
	}
	queue(t, m,
		api.Waiting{ID: 99}, api.Waiting{ID: 96}, api.Waiting{ID: 92},
		api.Waiting{ID: 97, Lane: 1}, api.Waiting{ID: 93, Lane: 1},
		api.Waiting{ID: 100, Lane: 2}, api.Waiting{ID: 94, Lane: 2},
		api.Waiting{ID: 98, Lane: 3}, api.Waiting{ID: 95, Lane: 3})
	want(t, "P6: Cancel", m.Cancel(97), api.OK)
	want(t, "P6: Cancel", m.Cancel(99), api.OK)
	submit(t, m, 97+100, 1) // behind who came before, also into the place of one that went
	queue(t, m,
		api.Waiting{ID: 96}, api.Waiting{ID: 92},
		api.Waiting{ID: 93, Lane: 1}, api.Waiting{ID: 197, Lane: 1},
		api.Waiting{ID: 100, Lane: 2}, api.Waiting{ID: 94, Lane: 2},
		api.Waiting{ID: 98, Lane: 3}, api.Waiting{ID: 95, Lane: 3})
}

func TestPollAndAck(t *testing.T) {
	m := machine(t, plain)
	acks := func(n int) func() api.Errno { return func() api.Errno { return m.Ack(n) } }
	nothingToPoll(t, m)
	for _, n := range []int{math.MinInt, -1, 0, 1, math.MaxInt} {
		refused(t, m, "P11: Ack, no outcome", acks(n), api.ErrNone)
	}
	for id := 11; id <= 13; id++ {
		submit(t, m, id, 0)
		want(t, "P6: Cancel", m.Cancel(id), api.OK)
	}
	for n := 1; n <= 3; n++ {
		poll(t, m, n, 10+n, api.Withdrawn)
		poll(t, m, n, 10+n, api.Withdrawn) // as long as it is not acknowledged
		for _, wrong := range []int{math.MinInt, -n, 0, n - 1, n + 1, 10 + n, 1<<32 + n, math.MaxInt} {
			refused(t, m, "P11: Ack, of another one", acks(wrong), api.ErrNone)
		}
		want(t, "P11: Ack", m.Ack(n), api.OK)
	}
	nothingToPoll(t, m)
	for n := range 6 {
		refused(t, m, "P11: Ack, all are acknowledged", acks(n), api.ErrNone)
	}
	submit(t, m, 14, 0)
	want(t, "P6: Cancel", m.Cancel(14), api.OK)
	poll(t, m, 4, 14, api.Withdrawn) // numbers go on
}
