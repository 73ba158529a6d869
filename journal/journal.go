// Package journal: records of what was done, as bytes and read again.
package journal

import "shunt/api"

// Record is what one call has done (P12). Only what its kind has is written.
type Record struct {
	Kind   int
	Lane   int
	Edits  []api.Edit
	ID     int // of a change
	Pass   bool
	Number int // of a job, of an outcome, or how much time went by
}

// Bytes tells a record as it stands in the journal.
func (r Record) Bytes() []byte {
	body := r.body()
	b := appendNumber(nil, byte(r.Kind))
	b = appendNumber(b, uint32(len(body)))
	b = append(b, body...)
	return appendNumber(b, checkSum(b))
}

func (r Record) body() []byte {
	var b []byte
	switch r.Kind {
	case api.RSubmit:
		b = appendNumber(b, byte(r.Lane))
		b = appendEdits(b, r.Edits)
		fallthrough
	case api.RCancel:
		b = appendNumber(b, int64(r.ID))
	case api.RAnswer:
		b = appendNumber(b, verdict(r.Pass))
		fallthrough
	case api.RTick, api.RAck:
		b = appendNumber(b, int64(r.Number))
	}
	return b
}

// Read tells the records that a journal begins with, up to the last whole one,
// and how many bytes they have.
func Read(log []byte) (records []Record, size int) {
	for {
		c := cursor{rest: log[size:]}
		r, whole := c.record()
		if !whole {
			return records, size
		}
		records = append(records, r)
		size = len(log) - len(c.rest)
	}
}

func verdict(pass bool) byte {
	if pass {
		return 1
	}
	return 0
}

func appendEdits(b []byte, edits []api.Edit) []byte {
	b = appendNumber(b, byte(len(edits)))
	for _, e := range edits {
		b = appendText(b, e.Path)
		b = appendText(b, e.Old)
		b = appendText(b, e.New)
	}
	return b
}

func appendText(b []byte, s string) []byte {
	b = appendNumber(b, byte(len(s)))
	return append(b, s...)
}

// checkSum is Adler-32.
func checkSum(data []byte) uint32 {
	const modulus = 65521
	a, b := uint32(1), uint32(0)
	for _, x := range data {
		a = (a + uint32(x)) % modulus
		b = (b + a) % modulus
	}
	return b<<16 | a
}
