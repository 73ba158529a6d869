// Package line: what waits in order, and what is picked by rank.
package line

import (
	"iter"
	"slices"
)

// Line is a line of anything: who came first is the first to go.
type Line[T any] struct {
	items []T
}

// Add puts an item at the end.
func (l *Line[T]) Add(item T) {
	l.items = append(l.items, item)
}

// AddFirst puts an item ahead of all others.
func (l *Line[T]) AddFirst(item T) {
	l.items = slices.Insert(l.items, 0, item)
}

// First tells the first item, if there is one.
func (l *Line[T]) First() (first T, ok bool) {
	if len(l.items) == 0 {
		return first, false
	}
	return l.items[0], true
}

// All goes through the items, from the first on.
func (l *Line[T]) All() iter.Seq[T] {
	return slices.Values(l.items)
}

// Drop takes the first item away, if there is one.
func (l *Line[T]) Drop() {
	if len(l.items) == 0 {
		return
	}
	var none T
	l.items[0] = none // the room ahead of the line stays for a while: what went is not to stay with it
	l.items = l.items[1:]
}

// Ranked is anything that can tell whether it comes before another one of its kind.
type Ranked[T any] interface {
	Before(other T) bool
}

// ByRank tells items in the order of their ranks; equal ones stay as they stood.
func ByRank[T Ranked[T]](items []T) []T {
	list := slices.Clone(items)
	slices.SortStableFunc(list, func(a, b T) int {
		switch {
		case a.Before(b):
			return -1
		case b.Before(a):
			return 1
		}
		return 0
	})
	return list
}
