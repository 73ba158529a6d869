package yard

import "shunt/api"

// waiting is a change in the queue.
type waiting struct {
	api.Waiting
	age   int // the setting: a change tells its rank without asking anybody
	order int // of submitting
	edits []api.Edit
}

// Before tells whether a change has the lower rank (P7).
func (w waiting) Before(other waiting) bool {
	if a, b := w.countingLane(), other.countingLane(); a != b {
		return a < b
	}
	return w.order < other.order
}

func (w waiting) countingLane() int {
	return max(0, w.Lane-w.Passed/w.age)
}
