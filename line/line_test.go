package line

import (
	"math/rand"
	"slices"
	"testing"
)

func TestFirstCameFirstGoes(t *testing.T) {
	var l Line[string]
	for _, s := range []string{"a", "b", "c"} {
		l.Add(s)
	}
	for _, want := range []string{"a", "b", "c"} {
		for range 2 {
			if got, ok := l.First(); got != want || !ok {
				t.Errorf("First() = %q, %v, want %q", got, ok, want)
			}
		}
		l.Drop()
	}
	if got, ok := l.First(); got != "" || ok {
		t.Errorf("First() of a line that has gone = %q, %v", got, ok)
	}
}

func TestEmptyLine(t *testing.T) {
	var l Line[*int]
	l.Drop()
	if got, ok := l.First(); got != nil || ok {
		t.Errorf("First() of an empty line = %v, %v", got, ok)
	}
	n := 7
	l.Add(&n)
	if got, ok := l.First(); got != &n || !ok {
		t.Errorf("First() behind a Drop of nothing = %v, %v", got, ok)
	}
}

func TestAheadOfAllOthers(t *testing.T) {
	var l Line[string]
	l.AddFirst("c") // into an empty line
	l.AddFirst("b")
	l.Add("d")
	l.AddFirst("a")
	if got, want := slices.Collect(l.All()), []string{"a", "b", "c", "d"}; !slices.Equal(got, want) {
		t.Errorf("All() = %v, want %v", got, want)
	}
	l.Drop()
	l.AddFirst("e") // into the place of one that went
	if got, want := slices.Collect(l.All()), []string{"e", "b", "c", "d"}; !slices.Equal(got, want) {
		t.Errorf("All() = %v, want %v", got, want)
	}
}

func TestAllMayBeLeft(t *testing.T) {
	var l Line[int]
	for range l.All() {
		t.Error("an empty line has an item")
	}
	for n := range 5 {
		l.Add(n)
	}
	seen := 0
	for n := range l.All() {
		if seen++; n == 2 {
			break
		}
	}
	if seen != 3 {
		t.Errorf("%d items were gone through, want 3", seen)
	}
}

// TestDrawn holds a line against a slice.
func TestDrawn(t *testing.T) {
	r := rand.New(rand.NewSource(1))
	var l Line[int]
	var want []int
	for n := range 5000 {
		switch r.Intn(4) {
		case 0, 1:
			l.Drop()
			want = want[min(1, len(want)):]
		case 2:
			l.Add(n)
			want = append(want, n)
		default:
			l.AddFirst(n)
			want = append([]int{n}, want...)
		}
		got, ok := l.First()
		if ok != (len(want) > 0) || ok && got != want[0] || !ok && got != 0 {
			t.Fatalf("First() = %d, %v, want the first of %v", got, ok, want)
		}
		if got := slices.Collect(l.All()); !slices.Equal(got, want) {
			t.Fatalf("All() = %v, want %v", got, want)
		}
	}
}

func TestWhatWentIsNotKept(t *testing.T) {
	var l Line[*int]
	l.Add(new(int))
	l.Add(new(int))
	room := l.items
	l.Drop()
	if room[0] != nil || room[1] == nil {
		t.Errorf("behind a Drop the room has %v", room)
	}
}

// card is ranked by its height alone.
type card struct {
	height int
	name   string
}

func (c card) Before(other card) bool { return c.height < other.height }

func TestByRank(t *testing.T) {
	for _, c := range []struct{ items, want []card }{
		{nil, nil},
		{[]card{{1, "a"}}, []card{{1, "a"}}},
		{[]card{{2, "a"}, {1, "b"}}, []card{{1, "b"}, {2, "a"}}},
		{[]card{{1, "a"}, {2, "b"}, {3, "c"}}, []card{{1, "a"}, {2, "b"}, {3, "c"}}},
		{[]card{{3, "a"}, {1, "b"}, {2, "c"}, {1, "d"}, {3, "e"}}, []card{{1, "b"}, {1, "d"}, {2, "c"}, {3, "a"}, {3, "e"}}},
	} {
		items := slices.Clone(c.items)
		got := ByRank(items)
		if !slices.Equal(got, c.want) {
			t.Errorf("ByRank(%v) = %v, want %v", c.items, got, c.want)
		}
		for i := range got[:cap(got)] {
			got[:cap(got)][i] = card{9, "w"}
		}
		if !slices.Equal(items, c.items) {
			t.Errorf("ByRank has made %v of %v, or shares room with it", items, c.items)
		}
	}
}

func TestByRankKeepsEqualOnesInOrder(t *testing.T) {
	r := rand.New(rand.NewSource(2))
	for range 200 {
		var items []card
		for i := range 40 {
			items = append(items, card{r.Intn(3), string(rune('A' + i))})
		}
		var want []card
		for height := range 3 {
			for _, c := range items {
				if c.height == height {
					want = append(want, c)
				}
			}
		}
		if got := ByRank(items); !slices.Equal(got, want) {
			t.Fatalf("ByRank(%v) = %v, want %v", items, got, want)
		}
	}
}
