package shunt

import (
	"shunt/api"
	"shunt/journal"
	"shunt/yard"
)

// running is what a machine has while it is up, and loses when it goes down.
type running struct {
	yard   *yard.Yard
	breaks bool // in its next writing
	keep   int  // so many bytes of that stay
}

// act lets happen what a record says, if it can: it is written ahead of that.
func (m *Machine) act(r journal.Record) api.Errno {
	if m.up == nil {
		return api.ErrDown
	}
	if e := m.up.yard.Check(r); e != api.OK {
		return e
	}
	m.write(r.Bytes())
	if m.up == nil {
		return api.ErrDown
	}
	m.up.yard.Do(r)
	return api.OK
}

// write puts a record at the end of the journal; the machine is down behind
// it, if it was to break.
func (m *Machine) write(record []byte) {
	if m.up.breaks {
		record = record[:max(0, min(m.up.keep, len(record)))]
		m.up = nil
	}
	m.log = append(m.log, record...)
}

// tell asks for a list, which only a machine that is up has.
func tell[T any](m *Machine, question func(y *yard.Yard) []T) ([]T, api.Errno) {
	if m.up == nil {
		return nil, api.ErrDown
	}
	return question(m.up.yard), api.OK
}

// start makes the machine what it was first, but for its journal.
func (m *Machine) start() {
	m.up = &running{yard: yard.New(m.config, m.files)}
}

func configMayBe(c api.Config) bool {
	return within(c.Lanes, 1, api.MaxLanes) &&
		within(c.Age, 1, api.MaxAge) &&
		within(c.Batch, 1, api.MaxBatch) &&
		within(c.Window, 1, api.MaxWindow) &&
		within(c.Retries, 0, api.MaxRetries) &&
		within(c.Deadline, 1, api.MaxDeadline) &&
		within(c.Queue, 1, api.MaxQueue)
}

func within(n, least, most int) bool {
	return n >= least && n <= most
}
