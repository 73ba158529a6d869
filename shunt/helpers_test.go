package shunt_test

import (
	"encoding/binary"
	"hash/adler32"
	"reflect"
	"testing"

	"shunt/api"
	"shunt/shunt"
)

// plain: the settings of the document's examples.
var plain = api.Config{Lanes: 1, Age: 1, Batch: 4, Window: 1, Retries: 0, Deadline: 10, Queue: 8}

// wide: settings with all lanes, and room for all who may wait.
var wide = api.Config{Lanes: api.MaxLanes, Age: 1, Batch: 4, Window: 1, Retries: 0, Deadline: 10, Queue: api.MaxQueue}

func machine(t *testing.T, c api.Config, files ...api.File) *shunt.Machine {
	t.Helper()
	m, e := shunt.New(c, files)
	if m == nil || e != api.OK {
		t.Fatalf("P5: New(%+v, %v) = %v, %d", c, files, m, e)
	}
	return m
}

func want(t *testing.T, what string, got, want api.Errno) {
	t.Helper()
	if got != want {
		t.Errorf("%s = %d, want %d", what, got, want)
	}
}

// edits: path, old, new, by turns.
func edits(l ...string) []api.Edit {
	var out []api.Edit
	for i := 0; i+2 < len(l); i += 3 {
		out = append(out, api.Edit{Path: l[i], Old: l[i+1], New: l[i+2]})
	}
	return out
}

// some: edits that may be.
func some() []api.Edit { return edits("x", "", "1") }

func submit(t *testing.T, m *shunt.Machine, id, lane int) {
	t.Helper()
	want(t, "P6: Submit", m.Submit(id, lane, some()), api.OK)
}

// view is all that a machine tells.
type view struct {
	Tree    []api.File
	Main    []api.Tip
	Queue   []api.Waiting
	Train   []api.Segment
	Jobs    []api.Job
	Outcome api.Outcome
	Errors  [6]api.Errno
	Log     string
}

func look(m *shunt.Machine) view {
	var v view
	v.Tree, v.Errors[0] = m.Tree()
	v.Main, v.Errors[1] = m.Main()
	v.Queue, v.Errors[2] = m.Queue()
	v.Train, v.Errors[3] = m.Train()
	v.Jobs, v.Errors[4] = m.Jobs()
	v.Outcome, v.Errors[5] = m.Poll()
	v.Log = m.Log()
	return v
}

// refused checks the error of a call, and that the call has changed nothing.
func refused(t *testing.T, m *shunt.Machine, what string, call func() api.Errno, err api.Errno) {
	t.Helper()
	before := look(m)
	want(t, what, call(), err)
	if after := look(m); !reflect.DeepEqual(after, before) {
		t.Errorf("P1: %s: a call with an error has made %+v of %+v", what, after, before)
	}
}

// queue checks who waits; none was passed over.
func queue(t *testing.T, m *shunt.Machine, want ...api.Waiting) {
	t.Helper()
	got, e := m.Queue()
	if e != api.OK || len(got)+len(want) > 0 && !reflect.DeepEqual(got, want) {
		t.Errorf("P7, P14: Queue() = %v, %d, want %v", got, e, want)
	}
}

func poll(t *testing.T, m *shunt.Machine, number, id, kind int) {
	t.Helper()
	want := api.Outcome{Number: number, ID: id, Kind: kind}
	if got, e := m.Poll(); got != want || e != api.OK {
		t.Errorf("P11: Poll() = %+v, %d, want %+v", got, e, want)
	}
}

func nothingToPoll(t *testing.T, m *shunt.Machine) {
	t.Helper()
	if got, e := m.Poll(); got != (api.Outcome{}) || e != api.ErrNone {
		t.Errorf("P11: Poll() = %+v, %d, want none", got, e)
	}
}

func tip(t *testing.T, m *shunt.Machine, want ...api.File) {
	t.Helper()
	got, e := m.Tree()
	if e != api.OK || len(got)+len(want) > 0 && !reflect.DeepEqual(got, want) {
		t.Errorf("P14: Tree() = %v, %d, want %v", got, e, want)
	}
}

func log(t *testing.T, m *shunt.Machine, want string) {
	t.Helper()
	if got := m.Log(); got != want {
		t.Errorf("P12, P14: Log() = %q, want %q", got, want)
	}
}

// isDown checks that a machine tells nothing but its journal, and does nothing.
func isDown(t *testing.T, m *shunt.Machine) {
	t.Helper()
	down := view{Errors: [6]api.Errno{api.ErrDown, api.ErrDown, api.ErrDown, api.ErrDown, api.ErrDown, api.ErrDown}, Log: m.Log()}
	if got := look(m); !reflect.DeepEqual(got, down) {
		t.Errorf("P1, P14: a machine that is down tells %+v", got)
	}
	for _, c := range []struct {
		what string
		call func() api.Errno
	}{
		{"P6: Submit, of a change", func() api.Errno { return m.Submit(999, 0, some()) }},
		{"P6: Submit, of none", func() api.Errno { return m.Submit(0, -1, nil) }},
		{"P6: Cancel", func() api.Errno { return m.Cancel(1) }},
		{"P6: Cancel, of none", func() api.Errno { return m.Cancel(0) }},
		{"P8: Pump", m.Pump},
		{"P10: Answer", func() api.Errno { return m.Answer(1, true) }},
		{"P10: Tick", func() api.Errno { return m.Tick(1) }},
		{"P10: Tick, of none", func() api.Errno { return m.Tick(0) }},
		{"P11: Ack", func() api.Errno { return m.Ack(1) }},
		{"P11: Ack, of none", func() api.Errno { return m.Ack(0) }},
		{"P13: Break", func() api.Errno { return m.Break(0) }},
		{"P13: Crash", m.Crash},
	} {
		refused(t, m, c.what+", down", c.call, api.ErrDown)
	}
}

// record: of a kind, with what follows; the sum by the library.
func record(kind int, body string) string {
	b := append([]byte{byte(kind)}, binary.BigEndian.AppendUint32(nil, uint32(len(body)))...)
	b = append(b, body...)
	return string(binary.BigEndian.AppendUint32(b, adler32.Checksum(b)))
}

// eight: a number of eight bytes.
func eight(n int) string {
	return string(binary.BigEndian.AppendUint64(nil, uint64(n)))
}

// submitted: the record of a Submit of some edits.
func submitted(id, lane int) string {
	return record(api.RSubmit, string([]byte{byte(lane)})+"\x01\x01x\x00\x011"+eight(id))
}
