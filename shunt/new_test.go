package shunt_test

import (
	"math"
	"reflect"
	"testing"

	"shunt/api"
	"shunt/shunt"
)

// settings: each of a config, with its bounds as the document names them.
var settings = []struct {
	name        string
	of          func(c *api.Config) *int
	least, most int
}{
	{"Lanes", func(c *api.Config) *int { return &c.Lanes }, 1, api.MaxLanes},
	{"Age", func(c *api.Config) *int { return &c.Age }, 1, api.MaxAge},
	{"Batch", func(c *api.Config) *int { return &c.Batch }, 1, api.MaxBatch},
	{"Window", func(c *api.Config) *int { return &c.Window }, 1, api.MaxWindow},
	{"Retries", func(c *api.Config) *int { return &c.Retries }, 0, api.MaxRetries},
	{"Deadline", func(c *api.Config) *int { return &c.Deadline }, 1, api.MaxDeadline},
	{"Queue", func(c *api.Config) *int { return &c.Queue }, 1, api.MaxQueue},
}

// wrongFiles: files that may not be.
var wrongFiles = [][]api.File{
	{{Path: "", Blob: "1"}},
	{{Path: "x", Blob: ""}},
	{{Path: "123456789", Blob: "1"}},
	{{Path: "x", Blob: "123456789"}},
	{{Path: "x", Blob: "1"}, {Path: "x", Blob: "1"}},
	{{Path: "x", Blob: "1"}, {Path: "y", Blob: "1"}, {Path: "x", Blob: "2"}},
	{{Path: "x", Blob: "1"}, {}},
}

func TestSettings(t *testing.T) {
	for _, s := range settings {
		for _, n := range []int{math.MinInt, -1, s.least - 1, s.least, s.least + 1, s.most - 1, s.most, s.most + 1, 256 + s.least, 1<<32 + s.least, math.MaxInt} {
			c := plain
			*s.of(&c) = n
			err := api.OK
			if n < s.least || n > s.most {
				err = api.ErrConfig
			}
			m, e := shunt.New(c, nil)
			if e != err || (m != nil) != (err == api.OK) {
				t.Errorf("P5: %s %d: New = %v, %d, want error %d", s.name, n, m, e, err)
			}
		}
	}
}

func TestAllSettingsAtTheirBounds(t *testing.T) {
	var least, most api.Config
	for _, s := range settings {
		*s.of(&least), *s.of(&most) = s.least, s.most
	}
	machine(t, least)
	machine(t, most)
	if m, e := shunt.New(api.Config{}, nil); m != nil || e != api.ErrConfig {
		t.Errorf("P5: New({}, nil) = %v, %d", m, e)
	}
}

func TestNewFiles(t *testing.T) {
	for _, f := range wrongFiles {
		if m, e := shunt.New(plain, f); m != nil || e != api.ErrChange {
			t.Errorf("P5: New(.., %q) = %v, %d, want error %d", f, m, e, api.ErrChange)
		}
		for _, s := range settings {
			c := plain
			*s.of(&c) = s.most + 1
			if m, e := shunt.New(c, f); m != nil || e != api.ErrConfig {
				t.Errorf("P1, P5: %s %d, and files %q: New = %v, %d, want error %d", s.name, s.most+1, f, m, e, api.ErrConfig)
			}
		}
	}
	tip(t, machine(t, plain))
	tip(t, machine(t, plain, []api.File{}...))
	tip(t, machine(t, plain, api.File{Path: "b", Blob: "1"}, api.File{Path: "\xff", Blob: "2"}, api.File{Path: "a", Blob: "12345678"}, api.File{Path: "aa", Blob: "3"}),
		api.File{Path: "a", Blob: "12345678"}, api.File{Path: "aa", Blob: "3"}, api.File{Path: "b", Blob: "1"}, api.File{Path: "\xff", Blob: "2"})
}

func TestNewMachine(t *testing.T) {
	got := look(machine(t, plain, api.File{Path: "q", Blob: "1"}))
	if want := (view{Tree: []api.File{{Path: "q", Blob: "1"}}, Errors: [6]api.Errno{5: api.ErrNone}}); !reflect.DeepEqual(got, want) {
		t.Errorf("P5: a new machine tells %+v, want %+v", got, want)
	}
	m := machine(t, plain)
	refused(t, m, "P13: Recover, new", m.Recover, api.ErrUp)
}

func TestMachinesKnowNothingOfOneAnother(t *testing.T) {
	files := []api.File{{Path: "q", Blob: "1"}}
	one, two := machine(t, plain, files...), machine(t, plain, files...)
	before := look(two)
	submit(t, one, 1, 0)
	want(t, "P6: Cancel", one.Cancel(1), api.OK)
	submit(t, one, 2, 0)
	pump(t, one)
	answer(t, one, 1, true)
	submit(t, one, 3, 0)
	want(t, "P13: Break", one.Break(3), api.OK)
	want(t, "P6: Cancel", one.Cancel(3), api.ErrDown)
	if after := look(two); !reflect.DeepEqual(after, before) {
		t.Errorf("P2: what one machine did has made %+v of another one's %+v", after, before)
	}
	submit(t, two, 1, 0)
	pump(t, two)
	train(t, two, seg(1, 0, 1))
}
