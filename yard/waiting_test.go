package yard

import (
	"math/rand"
	"slices"
	"testing"

	"shunt/api"
	"shunt/journal"
	"shunt/line"
)

func TestLaneThatCounts(t *testing.T) {
	for _, c := range []struct{ lane, passed, age, want int }{
		{0, 0, 1, 0}, {3, 0, 1, 3}, {3, 0, 8, 3}, // never passed over
		{3, 1, 1, 2}, {3, 2, 1, 1}, {3, 3, 1, 0}, // one for each time
		{1, 1, 2, 1}, {1, 2, 2, 0}, {3, 3, 2, 2}, {3, 4, 2, 1}, {3, 5, 2, 1}, {3, 6, 2, 0}, // one for each two
		{2, 7, 8, 2}, {2, 8, 8, 1}, {2, 15, 8, 1}, {2, 16, 8, 0},
		{0, 1, 1, 0}, {0, 1000, 1, 0}, {1, 2, 1, 0}, {3, 4, 1, 0}, {3, 24, 2, 0}, {3, 1 << 62, 1, 0}, // not below 0
	} {
		w := waiting{Waiting: api.Waiting{ID: 1, Lane: c.lane, Passed: c.passed}, age: c.age}
		if got := w.countingLane(); got != c.want {
			t.Errorf("P7: lane %d, passed over %d times, Age %d: it counts as of lane %d, want %d", c.lane, c.passed, c.age, got, c.want)
		}
	}
}

func TestRank(t *testing.T) {
	who := func(id, lane, passed, order int) waiting {
		return waiting{Waiting: api.Waiting{ID: id, Lane: lane, Passed: passed}, age: 2, order: order}
	}
	for _, c := range []struct {
		name     string
		one, two waiting
	}{
		{"the lower lane", who(2, 0, 0, 9), who(1, 1, 0, 1)},
		{"of one lane the older one", who(2, 1, 0, 1), who(1, 1, 0, 2)},
		{"not yet passed over often enough", who(2, 0, 0, 9), who(1, 1, 1, 1)},
		{"passed over often enough, and older", who(2, 1, 2, 1), who(1, 0, 0, 2)},
		{"passed over often enough, and younger", who(2, 0, 0, 1), who(1, 1, 2, 2)},
		{"passed over by more than the lanes there are", who(2, 0, 0, 1), who(1, 1, 99, 2)},
		{"lanes alone, not how often", who(2, 1, 0, 1), who(1, 1, 1, 2)},
		{"by the lanes that count, not their own", who(2, 3, 4, 5), who(1, 2, 1, 1)},
	} {
		if !c.one.Before(c.two) || c.two.Before(c.one) {
			t.Errorf("P7: %s: %+v is not ahead of %+v alone", c.name, c.one, c.two)
		}
		if c.one.Before(c.one) {
			t.Errorf("P7: %+v is ahead of itself", c.one)
		}
	}
}

func TestByRankOfDrawnOnes(t *testing.T) {
	r := rand.New(rand.NewSource(1))
	for range 500 {
		age := 1 + r.Intn(api.MaxAge)
		var queue []waiting
		for i := range r.Intn(api.MaxQueue + 1) {
			queue = append(queue, waiting{Waiting: api.Waiting{ID: 100 - i, Lane: r.Intn(api.MaxLanes), Passed: r.Intn(20)}, age: age, order: i})
		}
		var want []int
		for lane := range api.MaxLanes {
			for _, w := range queue {
				counts := w.Lane
				for n := age; n <= w.Passed && counts > 0; n += age {
					counts--
				}
				if counts == lane {
					want = append(want, w.ID)
				}
			}
		}
		r.Shuffle(len(queue), func(i, j int) { queue[i], queue[j] = queue[j], queue[i] })
		var got []int
		for _, w := range line.ByRank(queue) {
			got = append(got, w.ID)
		}
		if !slices.Equal(got, want) {
			t.Fatalf("P7: Age %d: %+v by rank is %v, want %v", age, queue, got, want)
		}
	}
}

// TestKeepsItsOwnEdits: what waits has edits of its own (P2).
func TestKeepsItsOwnEdits(t *testing.T) {
	y := New(api.Config{Lanes: 1, Age: 1, Queue: 1}, nil)
	edits := []api.Edit{{Path: "x", New: "1"}, {Path: "y", Old: "2"}}
	y.Do(journal.Record{Kind: api.RSubmit, ID: 1, Edits: edits})
	clear(edits)
	if got, want := y.queue[0].edits, []api.Edit{{Path: "x", New: "1"}, {Path: "y", Old: "2"}}; !slices.Equal(got, want) {
		t.Errorf("P2: the edits of who waits have become %v, want %v", got, want)
	}
}
