package shunt_test

import (
	"encoding/binary"
	"hash/adler32"
	"reflect"
	"strconv"
	"testing"

	"shunt/api"
	"shunt/shunt"
)

// plain: the settings of the document's examples.
var plain = api.Config{Lanes: 1, Age: 1, Batch: 4, Window: 1, Retries: 0, Deadline: 10, Queue: 8}

// wide: settings with all lanes, and room for all who may wait.
var wide = api.Config{Lanes: api.MaxLanes, Age: 1, Batch: 4, Window: 1, Retries: 0, Deadline: 10, Queue: api.MaxQueue}

func machine(t *testing.T, c api.Config, files ...api.File) *shunt.Machine {
	t.Helper()
	m, e := shunt.New(c, files)
	if m == nil || e != api.OK {
		t.Fatalf("P5: New(%+v, %v) = %v, %d", c, files, m, e)
	}
	return m
}

func want(t *testing.T, what string, got, want api.Errno) {
	t.Helper()
	if got != want {
		t.Errorf("%s = %d, want %d", what, got, want)
	}
}

// edits: path, old, new, by turns.
func edits(l ...string) []api.Edit {
	var out []api.Edit
	for i := 0; i+2 < len(l); i += 3 {
		out = append(out, api.Edit{Path: l[i], Old: l[i+1], New: l[i+2]})
	}
	return out
}

// some: edits that may be.
func some() []api.Edit { return edits("x", "", "1") }

func submit(t *testing.T, m *shunt.Machine, id, lane int) {
	t.Helper()
	want(t, "P6: Submit", m.Submit(id, lane, some()), api.OK)
}

// put submits a change into lane 0: path, old, new, by turns.
func put(t *testing.T, m *shunt.Machine, id int, l ...string) {
	t.Helper()
	want(t, "P6: Submit", m.Submit(id, 0, edits(l...)), api.OK)
}

// own: a path that only the change of this id has.
func own(id int) string { return "own" + strconv.Itoa(id) }

// putOwn submits changes of different paths into lane 0.
func putOwn(t *testing.T, m *shunt.Machine, ids ...int) {
	t.Helper()
	for _, id := range ids {
		put(t, m, id, own(id), "", "1")
	}
}

// with: settings like these, but for some.
func with(c api.Config, change func(c *api.Config)) api.Config {
	change(&c)
	return c
}

func pump(t *testing.T, m *shunt.Machine) {
	t.Helper()
	want(t, "P8: Pump", m.Pump(), api.OK)
}

// answer ends a job, and lets the train go on.
func answer(t *testing.T, m *shunt.Machine, job int, pass bool) {
	t.Helper()
	want(t, "P10: Answer", m.Answer(job, pass), api.OK)
	pump(t, m)
}

func tick(t *testing.T, m *shunt.Machine, n int) {
	t.Helper()
	want(t, "P10: Tick", m.Tick(n), api.OK)
}

func recoverCrashed(t *testing.T, m *shunt.Machine) {
	t.Helper()
	want(t, "P13: Crash", m.Crash(), api.OK)
	want(t, "P13: Recover", m.Recover(), api.OK)
}

// view is all that a machine tells.
type view struct {
	Tree    []api.File
	Main    []api.Tip
	Queue   []api.Waiting
	Train   []api.Segment
	Jobs    []api.Job
	Outcome api.Outcome
	Errors  [6]api.Errno
	Log     string
}

func look(m *shunt.Machine) view {
	var v view
	v.Tree, v.Errors[0] = m.Tree()
	v.Main, v.Errors[1] = m.Main()
	v.Queue, v.Errors[2] = m.Queue()
	v.Train, v.Errors[3] = m.Train()
	v.Jobs, v.Errors[4] = m.Jobs()
	v.Outcome, v.Errors[5] = m.Poll()
	v.Log = m.Log()
	return v
}

func equal(one, two view) bool { return reflect.DeepEqual(one, two) }

// refused checks the error of a call, and that the call has changed nothing.
func refused(t *testing.T, m *shunt.Machine, what string, call func() api.Errno, err api.Errno) {
	t.Helper()
	before := look(m)
	want(t, what, call(), err)
	if after := look(m); !reflect.DeepEqual(after, before) {
		t.Errorf("P1: %s: a call with an error has made %+v of %+v", what, after, before)
	}
}

// told checks a list that a machine tells.
func told[T any](t *testing.T, what string, tell func() ([]T, api.Errno), want []T) {
	t.Helper()
	got, e := tell()
	if e != api.OK || len(got)+len(want) > 0 && !reflect.DeepEqual(got, want) {
		t.Errorf("%s = %+v, %d, want %+v", what, got, e, want)
	}
}

func queue(t *testing.T, m *shunt.Machine, want ...api.Waiting) {
	t.Helper()
	told(t, "P7, P14: Queue()", m.Queue, want)
}

// seg: a segment: its job, how often it has failed, its changes.
func seg(job, fails int, ids ...int) api.Segment {
	return api.Segment{IDs: ids, Fails: fails, Job: job}
}

// passed: a segment that has.
func passed(fails int, ids ...int) api.Segment {
	return api.Segment{IDs: ids, Fails: fails, Passed: true}
}

func train(t *testing.T, m *shunt.Machine, want ...api.Segment) {
	t.Helper()
	told(t, "P8, P14: Train()", m.Train, want)
}

// running: a job; its tree is files, path and what stands there by turns.
func running(number, until int, ids []int, files ...string) api.Job {
	j := api.Job{Number: number, Until: until, IDs: ids}
	for i := 0; i+1 < len(files); i += 2 {
		j.Tree = append(j.Tree, api.File{Path: files[i], Blob: files[i+1]})
	}
	return j
}

func jobs(t *testing.T, m *shunt.Machine, want ...api.Job) {
	t.Helper()
	told(t, "P9, P14: Jobs()", func() ([]api.Job, api.Errno) {
		list, e := m.Jobs()
		for i := range list {
			if len(list[i].Tree) == 0 {
				list[i].Tree = nil // a list without elements may be nil, or not
			}
		}
		return list, e
	}, want)
}

func mainline(t *testing.T, m *shunt.Machine, want ...api.Tip) {
	t.Helper()
	told(t, "P8, P14: Main()", m.Main, want)
}

// landed: a Tip.
func landed(job int, ids ...int) api.Tip { return api.Tip{Job: job, IDs: ids} }

// outcomes acknowledges all there are, from a number on: id and kind by turns.
func outcomes(t *testing.T, m *shunt.Machine, from int, l ...int) {
	t.Helper()
	for i := 0; i+1 < len(l); i += 2 {
		poll(t, m, from+i/2, l[i], l[i+1])
		want(t, "P11: Ack", m.Ack(from+i/2), api.OK)
	}
	nothingToPoll(t, m)
}

func poll(t *testing.T, m *shunt.Machine, number, id, kind int) {
	t.Helper()
	want := api.Outcome{Number: number, ID: id, Kind: kind}
	if got, e := m.Poll(); got != want || e != api.OK {
		t.Errorf("P11: Poll() = %+v, %d, want %+v", got, e, want)
	}
}

func nothingToPoll(t *testing.T, m *shunt.Machine) {
	t.Helper()
	if got, e := m.Poll(); got != (api.Outcome{}) || e != api.ErrNone {
		t.Errorf("P11: Poll() = %+v, %d, want none", got, e)
	}
}

func tip(t *testing.T, m *shunt.Machine, want ...api.File) {
	t.Helper()
	told(t, "P14: Tree()", m.Tree, want)
}

func log(t *testing.T, m *shunt.Machine, want string) {
	t.Helper()
	if got := m.Log(); got != want {
		t.Errorf("P12, P14: Log() = %q, want %q", got, want)
	}
}

// isDown checks that a machine tells nothing but its journal, and does nothing.
func isDown(t *testing.T, m *shunt.Machine) {
	t.Helper()
	down := view{Errors: [6]api.Errno{api.ErrDown, api.ErrDown, api.ErrDown, api.ErrDown, api.ErrDown, api.ErrDown}, Log: m.Log()}
	if got := look(m); !reflect.DeepEqual(got, down) {
		t.Errorf("P1, P14: a machine that is down tells %+v", got)
	}
	for _, c := range []struct {
		what string
		call func() api.Errno
	}{
		{"P6: Submit, of a change", func() api.Errno { return m.Submit(999, 0, some()) }},
		{"P6: Submit, of none", func() api.Errno { return m.Submit(0, -1, nil) }},
		{"P6: Cancel", func() api.Errno { return m.Cancel(1) }},
		{"P6: Cancel, of none", func() api.Errno { return m.Cancel(0) }},
		{"P8: Pump", m.Pump},
		{"P10: Answer", func() api.Errno { return m.Answer(1, true) }},
		{"P10: Tick", func() api.Errno { return m.Tick(1) }},
		{"P10: Tick, of none", func() api.Errno { return m.Tick(0) }},
		{"P11: Ack", func() api.Errno { return m.Ack(1) }},
		{"P11: Ack, of none", func() api.Errno { return m.Ack(0) }},
		{"P13: Break", func() api.Errno { return m.Break(0) }},
		{"P13: Crash", m.Crash},
	} {
		refused(t, m, c.what+", down", c.call, api.ErrDown)
	}
}

// record: of a kind, with what follows; the sum by the library.
func record(kind int, body string) string {
	b := append([]byte{byte(kind)}, binary.BigEndian.AppendUint32(nil, uint32(len(body)))...)
	b = append(b, body...)
	return string(binary.BigEndian.AppendUint32(b, adler32.Checksum(b)))
}

// eight: a number of eight bytes.
func eight(n int) string {
	return string(binary.BigEndian.AppendUint64(nil, uint64(n)))
}

// submitted: the record of a Submit of some edits.
func submitted(id, lane int) string { return submittedOf(id, lane, some()) }

// submittedOf: the record of a Submit.
func submittedOf(id, lane int, edits []api.Edit) string {
	body := []byte{byte(lane), byte(len(edits))}
	for _, e := range edits {
		for _, text := range []string{e.Path, e.Old, e.New} {
			body = append(append(body, byte(len(text))), text...)
		}
	}
	return record(api.RSubmit, string(body)+eight(id))
}

// answered: the record of an Answer.
func answered(job int, pass bool) string {
	verdict := "\x00"
	if pass {
		verdict = "\x01"
	}
	return record(api.RAnswer, verdict+eight(job))
}
