package journal

import (
	"bytes"
	"encoding/binary"
	"hash/adler32"
	"math/rand"
	"reflect"
	"slices"
	"strings"
	"testing"

	"shunt/api"
)

// written: records, and their bytes as P12 has them, worked out by hand up to the sum.
var written = []struct {
	name   string
	record Record
	bytes  string // ahead of the sum
}{
	{"a Submit", Record{Kind: api.RSubmit, Lane: 3, ID: 7, Edits: []api.Edit{{Path: "x", New: "1"}, {Path: "yy", Old: "a"}}},
		"\x01" + "\x00\x00\x00\x15" + "\x03\x02" + "\x01x\x00\x011" + "\x02yy\x01a\x00" + "\x00\x00\x00\x00\x00\x00\x00\x07"},
	{"the longest Submit", Record{Kind: api.RSubmit, Lane: 0, ID: api.MaxID, Edits: []api.Edit{
		{Path: "12345678", Old: "aaaaaaaa", New: "bbbbbbbb"}, {Path: "22345678", Old: "aaaaaaaa", New: "bbbbbbbb"}, {Path: "32345678", Old: "aaaaaaaa", New: "bbbbbbbb"}, {Path: "\xff\x00\x80\x01\x02\x03\x04\x05", Old: "cccccccc", New: "dddddddd"}}},
		"\x01" + "\x00\x00\x00\x76" + "\x00\x04" + "\x0812345678\x08aaaaaaaa\x08bbbbbbbb" + "\x0822345678\x08aaaaaaaa\x08bbbbbbbb" + "\x0832345678\x08aaaaaaaa\x08bbbbbbbb" + "\x08\xff\x00\x80\x01\x02\x03\x04\x05\x08cccccccc\x08dddddddd" + "\x00\x00\x00\x00\x00\x0f\x42\x40"},
	{"a Cancel", Record{Kind: api.RCancel, ID: 258}, "\x02" + "\x00\x00\x00\x08" + "\x00\x00\x00\x00\x00\x00\x01\x02"},
	{"a Pump", Record{Kind: api.RPump}, "\x03" + "\x00\x00\x00\x00"},
	{"an Answer that passes", Record{Kind: api.RAnswer, Pass: true, Number: 65536}, "\x04" + "\x00\x00\x00\x09" + "\x01" + "\x00\x00\x00\x00\x00\x01\x00\x00"},
	{"an Answer that fails", Record{Kind: api.RAnswer, Number: 1}, "\x04" + "\x00\x00\x00\x09" + "\x00" + "\x00\x00\x00\x00\x00\x00\x00\x01"},
	{"a Tick", Record{Kind: api.RTick, Number: api.MaxTick}, "\x05" + "\x00\x00\x00\x08" + "\x00\x00\x00\x00\x00\x00\x03\xe8"},
	{"an Ack", Record{Kind: api.RAck, Number: 1 << 40}, "\x06" + "\x00\x00\x00\x08" + "\x00\x00\x01\x00\x00\x00\x00\x00"},
	{"a Recover", Record{Kind: api.RRecover}, "\x07" + "\x00\x00\x00\x00"},
}

// summed: with the sum behind it, as the library has it.
func summed(b string) string {
	return string(binary.BigEndian.AppendUint32([]byte(b), adler32.Checksum([]byte(b))))
}

func TestBytes(t *testing.T) {
	for _, w := range written {
		if got, want := string(w.record.Bytes()), summed(w.bytes); got != want {
			t.Errorf("P12: %s is %q, want %q", w.name, got, want)
		}
	}
}

func TestBytesSumsByHand(t *testing.T) {
	for kind, want := range map[int]string{
		api.RPump:    "\x03\x00\x00\x00\x00\x00\x14\x00\x04", // of the document's example 7
		api.RRecover: "\x07\x00\x00\x00\x00\x00\x28\x00\x08",
	} {
		if got := string(Record{Kind: kind}.Bytes()); got != want {
			t.Errorf("P12: a record of the kind %d is %q, want %q", kind, got, want)
		}
	}
	// a: 1 + 6 + 8 + 1; b: 7 five times, but 15 at the fifth; then 15 seven times; then 16
	if got, want := string(Record{Kind: api.RAck, Number: 1}.Bytes()), "\x06\x00\x00\x00\x08\x00\x00\x00\x00\x00\x00\x00\x01\x00\xa4\x00\x10"; got != want {
		t.Errorf("P12: Ack 1 is %q, want %q", got, want)
	}
}

func TestCheckSum(t *testing.T) {
	if got := checkSum(nil); got != 1 {
		t.Errorf("P12: the sum of nothing is %d, want 1", got)
	}
	for _, s := range []string{"a", "Wikipedia", "\x00", strings.Repeat("\x00", 70000), strings.Repeat("\xff", 256), strings.Repeat("\xff", 257), strings.Repeat("\xff", 258), strings.Repeat("\xff", 100000), strings.Repeat("\xf0", 65521)} {
		if got, want := checkSum([]byte(s)), adler32.Checksum([]byte(s)); got != want {
			t.Errorf("P12: the sum of %d bytes from %q on is %x, want %x", len(s), s[0], got, want)
		}
	}
	if got := checkSum([]byte("Wikipedia")); got != 0x11e60398 {
		t.Errorf("P12: the sum of Wikipedia is %x", got)
	}
}

// TestOnlyWhatTheKindHas: fields that are not of the kind leave no byte.
func TestOnlyWhatTheKindHas(t *testing.T) {
	for _, w := range written {
		full := w.record
		switch full.Kind {
		case api.RSubmit:
			full.Pass, full.Number = true, 99
		case api.RCancel:
			full.Pass, full.Number, full.Lane, full.Edits = true, 99, 2, []api.Edit{{Path: "x", New: "1"}}
		case api.RAnswer:
			full.ID, full.Lane, full.Edits = 99, 2, []api.Edit{{Path: "x", New: "1"}}
		default:
			full.ID, full.Lane, full.Pass, full.Edits = 99, 2, true, []api.Edit{{Path: "x", New: "1"}}
		}
		if got := string(full.Bytes()); got != summed(w.bytes) {
			t.Errorf("P12: %s with more is %q", w.name, got)
		}
	}
}

// all: the bytes of all that is written, and where each record ends.
func all() (log []byte, ends []int) {
	for _, w := range written {
		log = append(log, summed(w.bytes)...)
		ends = append(ends, len(log))
	}
	return log, ends
}

// same: whether records are the first n of those that are written.
func same(records []Record, n int) bool {
	var want []Record
	for _, w := range written[:n] {
		want = append(want, w.record)
	}
	return reflect.DeepEqual(records, want)
}

func TestReadUpToTheLastWholeOne(t *testing.T) {
	log, ends := all()
	for cut := range len(log) + 1 {
		n := 0
		for n < len(ends) && ends[n] <= cut {
			n++
		}
		want := 0
		if n > 0 {
			want = ends[n-1]
		}
		records, size := Read(log[:cut])
		if !same(records, n) || size != want {
			t.Errorf("P13: of %d bytes %d are whole, records %+v; want %d, %d records", cut, size, records, want, n)
		}
	}
}

// TestReadStopsAtAWrongByte: whichever byte of a record is wrong, it is not whole.
func TestReadStopsAtAWrongByte(t *testing.T) {
	log, ends := all()
	for at := range log {
		n := 0
		for ends[n] <= at {
			n++
		}
		want := 0
		if n > 0 {
			want = ends[n-1]
		}
		for _, flip := range []byte{1, 0x80, 0xff} {
			wrong := slices.Clone(log)
			wrong[at] ^= flip
			if records, size := Read(wrong); !same(records, n) || size != want {
				t.Errorf("P13: with byte %d wrong %d bytes are whole, records %+v; want %d, %d records", at, size, records, want, n)
			}
		}
	}
}

// TestReadWantsAllBytes: the sum of the head alone, where there should be more, makes no record.
func TestReadWantsAllBytes(t *testing.T) {
	for _, head := range []string{"\x02\x00\x00\x00\x08", "\x02\x00\x00\x00\x05", "\x02\xff\xff\xff\xff", "\x02\x80\x00\x00\x00"} {
		if records, size := Read([]byte(summed(head))); records != nil || size != 0 {
			t.Errorf("P13: Read(%q) = %+v, %d, want nothing", summed(head), records, size)
		}
	}
}

// TestReadAnything: no bytes make it panic or run on, also with sums that are right.
func TestReadAnything(t *testing.T) {
	for _, body := range []string{"", "\x00", "\x00\xff", "\x00\x01\xff", "\x00\x02\x01x\x00\x011", strings.Repeat("\xff", 300)} {
		for kind := range 256 {
			log := append([]byte{byte(kind)}, appendNumber(nil, uint32(len(body)))...)
			log = append(log, body...)
			log = appendNumber(log, checkSum(log))
			if records, size := Read(log); len(records) != 1 || size != len(log) {
				t.Errorf("a record of the kind %d with %q: %d records, %d bytes", kind, body, len(records), size)
			}
		}
	}
	r := rand.New(rand.NewSource(1))
	for range 20000 {
		log := make([]byte, r.Intn(40))
		for i := range log {
			log[i] = byte(r.Intn(4) * r.Intn(86))
		}
		before := slices.Clone(log)
		if _, size := Read(log); size < 0 || size > len(log) {
			t.Fatalf("Read(%q): %d bytes", log, size)
		}
		if !bytes.Equal(log, before) {
			t.Fatalf("Read has made %q of %q", log, before)
		}
	}
}

func TestReadKeepsNothing(t *testing.T) {
	log, _ := all()
	records, _ := Read(log)
	clear(log)
	if !same(records, len(written)) {
		t.Errorf("P2: what was read has changed with the bytes: %+v", records)
	}
}
