package journal

import "shunt/api"

// cursor goes through the bytes of a journal, or of a part of it.
type cursor struct {
	rest  []byte
	short bool // more was asked for than there was
}

// take tells the next n bytes, or none if there are fewer.
func (c *cursor) take(n uint64) []byte {
	if n > uint64(len(c.rest)) {
		c.short = true
		return nil
	}
	taken := c.rest[:n]
	c.rest = c.rest[n:]
	return taken
}

// record reads a record, and tells whether it is whole.
func (c *cursor) record() (Record, bool) {
	all := c.rest
	kind := takeNumber[byte](c)
	length := takeNumber[uint32](c)
	body := c.take(uint64(length))
	summed := all[:len(all)-len(c.rest)]
	sum := takeNumber[uint32](c)
	if c.short || sum != checkSum(summed) {
		return Record{}, false
	}
	return readBody(int(kind), body), true
}

func readBody(kind int, body []byte) Record {
	r := Record{Kind: kind}
	c := cursor{rest: body}
	switch kind {
	case api.RSubmit:
		r.Lane = int(takeNumber[byte](&c))
		r.Edits = c.edits()
		fallthrough
	case api.RCancel:
		r.ID = int(takeNumber[int64](&c))
	case api.RAnswer:
		r.Pass = takeNumber[byte](&c) == verdict(true)
		fallthrough
	case api.RTick, api.RAck:
		r.Number = int(takeNumber[int64](&c))
	}
	return r
}

func (c *cursor) edits() []api.Edit {
	list := make([]api.Edit, takeNumber[byte](c))
	for i := range list {
		list[i] = api.Edit{Path: c.text(), Old: c.text(), New: c.text()}
	}
	return list
}

func (c *cursor) text() string {
	return string(c.take(uint64(takeNumber[byte](c))))
}
