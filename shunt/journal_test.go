package shunt_test

import (
	"math"
	"reflect"
	"slices"
	"testing"

	"shunt/api"
	"shunt/shunt"
)

func TestRecords(t *testing.T) {
	c := plain
	c.Lanes = 4
	m := machine(t, c)
	log(t, m, "")
	want(t, "P6: Submit", m.Submit(7, 3, edits("x", "", "1", "yy", "a", "")), api.OK)
	// kind, length 21; lane, edits; path, Old, New of each; id; sum
	wanted := record(api.RSubmit, "\x03\x02"+"\x01x\x00\x011"+"\x02yy\x01a\x00"+"\x00\x00\x00\x00\x00\x00\x00\x07")
	log(t, m, wanted)
	want(t, "P6: Cancel", m.Cancel(7), api.OK)
	wanted += record(api.RCancel, "\x00\x00\x00\x00\x00\x00\x00\x07")
	log(t, m, wanted)
	want(t, "P11: Ack", m.Ack(1), api.OK)
	wanted += record(api.RAck, "\x00\x00\x00\x00\x00\x00\x00\x01")
	log(t, m, wanted)
	want(t, "P10: Tick", m.Tick(api.MaxTick), api.OK)
	wanted += record(api.RTick, "\x00\x00\x00\x00\x00\x00\x03\xe8")
	log(t, m, wanted)
	want(t, "P8: Pump", m.Pump(), api.OK)
	wanted += record(api.RPump, "")
	log(t, m, wanted)
	want(t, "P13: Crash", m.Crash(), api.OK)
	log(t, m, wanted)
	want(t, "P13: Recover", m.Recover(), api.OK)
	wanted += record(api.RRecover, "")
	log(t, m, wanted)
	want(t, "P6: Submit", m.Submit(api.MaxID, 0, edits("\x00", "\xff", "")), api.OK)
	wanted += record(api.RSubmit, "\x00\x01"+"\x01\x00\x01\xff\x00"+"\x00\x00\x00\x00\x00\x0f\x42\x40")
	log(t, m, wanted)
}

// TestBytesOfAJournal: with all sums by hand.
func TestBytesOfAJournal(t *testing.T) {
	m := machine(t, plain)
	want(t, "P8: Pump", m.Pump(), api.OK)
	want(t, "P13: Crash", m.Crash(), api.OK)
	want(t, "P13: Recover", m.Recover(), api.OK)
	log(t, m, "\x03\x00\x00\x00\x00\x00\x14\x00\x04"+"\x07\x00\x00\x00\x00\x00\x28\x00\x08")
}

func TestQuestionsWriteNothing(t *testing.T) {
	m := machine(t, plain)
	submit(t, m, 1, 0)
	want(t, "P6: Cancel", m.Cancel(1), api.OK)
	before := m.Log()
	look(m)
	want(t, "P13: Break", m.Break(3), api.OK)
	log(t, m, before)
	want(t, "P13: Crash", m.Crash(), api.OK)
	log(t, m, before)
}

// writers: each call that a busy machine writes a record of, and the record.
var writers = []struct {
	name   string
	call   func(m *shunt.Machine) api.Errno
	record string
}{
	{"Submit", func(m *shunt.Machine) api.Errno { return m.Submit(4, 1, edits("x", "", "1", "yy", "a", "")) }, record(api.RSubmit, "\x01\x02"+"\x01x\x00\x011"+"\x02yy\x01a\x00"+eight(4))},
	{"Cancel", func(m *shunt.Machine) api.Errno { return m.Cancel(1) }, record(api.RCancel, eight(1))},
	{"Ack", func(m *shunt.Machine) api.Errno { return m.Ack(1) }, record(api.RAck, eight(1))},
	{"Tick", func(m *shunt.Machine) api.Errno { return m.Tick(5) }, record(api.RTick, eight(5))},
	{"Tick till a job's time comes", func(m *shunt.Machine) api.Errno { return m.Tick(10) }, record(api.RTick, eight(10))},
	{"Answer that it has passed", func(m *shunt.Machine) api.Errno { return m.Answer(3, true) }, record(api.RAnswer, "\x01"+eight(3))},
	{"Answer that it has failed", func(m *shunt.Machine) api.Errno { return m.Answer(3, false) }, record(api.RAnswer, "\x00"+eight(3))},
	{"Pump", (*shunt.Machine).Pump, record(api.RPump, "")},
}

// busy: 1 and 2 wait, 3 was withdrawn; the train is (8), which has passed, and (9), whose job 3 is running.
func busy(t *testing.T) *shunt.Machine {
	t.Helper()
	m := machine(t, with(wide, func(c *api.Config) { c.Window = 2 }), api.File{Path: "q", Blob: "1"})
	putOwn(t, m, 8, 9)
	pump(t, m)
	answer(t, m, 1, false)
	want(t, "P10: Answer", m.Answer(2, true), api.OK)
	submit(t, m, 1, 1)
	submit(t, m, 2, 0)
	submit(t, m, 3, 0)
	want(t, "P6: Cancel", m.Cancel(3), api.OK)
	train(t, m, passed(0, 8), seg(3, 0, 9))
	return m
}

// recovered: what is told behind a Recover of a machine that told this.
func recovered(v view) view {
	v.Log += record(api.RRecover, "")
	v.Jobs = nil
	v.Train = slices.Clone(v.Train)
	for i := range v.Train {
		v.Train[i].Job = 0
	}
	return v
}

// withLog: a view with another journal.
func withLog(v view, log string) view {
	v.Log = log
	return v
}

// TestBreakBehindEachByte: of each kind of record; the machine that recovers has done the call wholly or not at all.
func TestBreakBehindEachByte(t *testing.T) {
	for _, w := range writers {
		plainly := busy(t)
		before := look(plainly)
		want(t, w.name, w.call(plainly), api.OK)
		log(t, plainly, before.Log+w.record)
		after := look(plainly)
		for keep := -1; keep <= len(w.record)+1; keep++ {
			m := busy(t)
			want(t, "P13: Break", m.Break(keep), api.OK)
			if got := look(m); !reflect.DeepEqual(got, before) {
				t.Errorf("P13: Break has made %+v of %+v", got, before)
			}
			want(t, "P13: "+w.name+" that breaks", w.call(m), api.ErrDown)
			kept := max(0, min(keep, len(w.record)))
			log(t, m, before.Log+w.record[:kept])
			isDown(t, m)
			want(t, "P13: Recover", m.Recover(), api.OK)
			wanted := recovered(before)
			if kept == len(w.record) {
				wanted = recovered(after)
			}
			if got := look(m); !equal(got, wanted) {
				t.Errorf("P13: %s broken behind %d bytes, recovered: %+v, want %+v", w.name, keep, got, wanted)
			}
			refused(t, m, "P13: Recover, up", m.Recover, api.ErrUp)
			submit(t, m, 50, 0) // the machine goes on, and breaks no more
		}
	}
}

func TestBrokenSubmitIsNoneUnlessItsRecordIsWhole(t *testing.T) {
	size := len(submitted(1, 0))
	for keep, err := range map[int]api.Errno{0: api.OK, size - 1: api.OK, size: api.ErrTwice, size + 1: api.ErrTwice} {
		m := machine(t, plain)
		want(t, "P13: Break", m.Break(keep), api.OK)
		want(t, "P6: Submit", m.Submit(1, 0, some()), api.ErrDown)
		want(t, "P13: Recover", m.Recover(), api.OK)
		want(t, "P6: Submit behind a Submit that broke", m.Submit(1, 0, some()), err)
		queue(t, m, api.Waiting{ID: 1})
	}
}

// TestExample7 is the document's.
func TestExample7(t *testing.T) {
	m := machine(t, plain)
	want(t, "P13: Break", m.Break(3), api.OK)
	want(t, "P13: Pump", m.Pump(), api.ErrDown)
	log(t, m, "\x03\x00\x00")
	want(t, "P13: Recover", m.Recover(), api.OK)
	log(t, m, record(api.RRecover, ""))
	want(t, "P8: Pump", m.Pump(), api.OK)
	log(t, m, record(api.RRecover, "")+"\x03\x00\x00\x00\x00\x00\x14\x00\x04")
}

// TestBreakWaitsForAWriting: what writes nothing does not break.
func TestBreakWaitsForAWriting(t *testing.T) {
	m := busy(t)
	want(t, "P13: Break", m.Break(2), api.OK)
	refused(t, m, "P6: Submit", submits(m, 0, 0, nil), api.ErrChange)
	refused(t, m, "P6: Submit", submits(m, 1, 0, some()), api.ErrTwice)
	refused(t, m, "P6: Cancel", cancels(m, 3), api.ErrNone)
	refused(t, m, "P11: Ack", func() api.Errno { return m.Ack(2) }, api.ErrNone)
	refused(t, m, "P10: Answer", answers(m, 2, true), api.ErrJob)
	refused(t, m, "P10: Tick", ticks(m, 0), api.ErrTick)
	refused(t, m, "P13: Recover", m.Recover, api.ErrUp)
	before := m.Log()
	want(t, "P6: Cancel", m.Cancel(1), api.ErrDown)
	log(t, m, before+"\x02\x00")
}

func TestAnotherBreakTakesItsPlace(t *testing.T) {
	for _, keeps := range [][]int{{99, 1}, {1, 99}, {5, -5}, {-5, 5}, {3, 3}, {math.MaxInt, math.MinInt}, {math.MinInt, math.MaxInt}} {
		m := busy(t)
		for _, keep := range keeps {
			want(t, "P13: Break", m.Break(keep), api.OK)
		}
		before, full := m.Log(), record(api.RCancel, eight(1))
		want(t, "P6: Cancel", m.Cancel(1), api.ErrDown)
		log(t, m, before+full[:max(0, min(keeps[1], len(full)))])
	}
}

func TestCrashEndsABreak(t *testing.T) {
	m := busy(t)
	want(t, "P13: Break", m.Break(2), api.OK)
	want(t, "P13: Crash", m.Crash(), api.OK)
	isDown(t, m)
	before := m.Log()
	want(t, "P13: Recover", m.Recover(), api.OK)
	log(t, m, before+record(api.RRecover, ""))
	want(t, "P6: Cancel", m.Cancel(1), api.OK)
	log(t, m, before+record(api.RRecover, "")+record(api.RCancel, eight(1)))
}

// TestCrashBehindEachCall: a machine that crashes and recovers behind each of its calls tells what one tells that never does.
func TestCrashBehindEachCall(t *testing.T) {
	calls := []func(m *shunt.Machine) api.Errno{
		func(m *shunt.Machine) api.Errno { return m.Submit(5, 2, some()) },
		func(m *shunt.Machine) api.Errno { return m.Submit(9, 0, some()) },
		func(m *shunt.Machine) api.Errno { return m.Cancel(5) },
		func(m *shunt.Machine) api.Errno { return m.Submit(3, 3, some()) },
		func(m *shunt.Machine) api.Errno { return m.Submit(4, 3, some()) },
		func(m *shunt.Machine) api.Errno { return m.Cancel(4) },
		func(m *shunt.Machine) api.Errno { return m.Ack(1) },
		func(m *shunt.Machine) api.Errno { return m.Tick(5) },
		func(m *shunt.Machine) api.Errno { return m.Submit(2, 0, some()) },
	}
	steady, shaken := machine(t, wide, api.File{Path: "q", Blob: "1"}), machine(t, wide, api.File{Path: "q", Blob: "1"})
	wanted := ""
	for i, call := range calls {
		ahead := len(steady.Log())
		want(t, "a call", call(steady), api.OK)
		want(t, "a call behind a crash", call(shaken), api.OK)
		wanted += steady.Log()[ahead:] + record(api.RRecover, "")
		want(t, "P13: Crash", shaken.Crash(), api.OK)
		isDown(t, shaken)
		want(t, "P13: Recover", shaken.Recover(), api.OK)
		if got, want := look(shaken), withLog(look(steady), wanted); !reflect.DeepEqual(got, want) {
			t.Errorf("P13: behind call %d, recovered: %+v, want %+v", i, got, want)
		}
	}
}

func TestBreakAgainAndAgain(t *testing.T) {
	m := machine(t, plain)
	wanted := ""
	for keep := range 8 {
		want(t, "P13: Break", m.Break(keep), api.OK)
		want(t, "P6: Submit", m.Submit(1, 0, some()), api.ErrDown)
		log(t, m, wanted+submitted(1, 0)[:keep])
		want(t, "P13: Recover", m.Recover(), api.OK)
		wanted += record(api.RRecover, "")
		log(t, m, wanted)
	}
	submit(t, m, 1, 0)
	log(t, m, wanted+submitted(1, 0))
}
