package runq

import (
	"forelock/api"
	"forelock/unit"
)

// mostWeight is the greatest weight of a task here, as it is for what a tick of a core costs.
const mostWeight = 4096

// task is one of a queue. Its key is its V and its number, by which it stands among the ready ones while it is ready.
type task struct {
	api.Key
	weight int
}

// within brings a weight to what it may be.
func within(w int) int {
	return min(max(w, 1), mostWeight)
}

// byNumber answers the key by which all tasks stand, ready or not, whatever their V's are.
func byNumber(id int) api.Key {
	return api.Key{ID: id}
}

// find answers the task by that number; nil, if there is none.
func (q *Queue) find(id int) *task {
	if q == nil {
		return nil
	}
	t, _ := q.tasks.Find(byNumber(id))
	return t
}

// running answers the current task; nil, if none is.
func (q *Queue) running() *task {
	if q == nil {
		return nil
	}
	return q.current
}

// clamp brings v to what a task of the weight w may have: from the floor up to that and its reach.
func (q *Queue) clamp(v uint64, w int) uint64 {
	return unit.Clamp(v, q.floor, unit.Reach(w, q.grain))
}

// least answers the least V of all tasks; 0, which lifts no floor, if there are none.
func (q *Queue) least() uint64 {
	first, _, ok := q.ready.First()
	switch {
	case q.current == nil:
		return first.V
	case !ok:
		return q.current.V
	}
	return min(first.V, q.current.V)
}
