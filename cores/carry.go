package cores

import (
	"forelock/api"
	"forelock/fixq"
	"forelock/runq"
)

// home answers the queue in which a task is; nil, of which a queue's calls may be asked as well, if it is in none.
func (c *Cores) home(id int) *runq.Queue {
	return c.Queue(c.Of(id))
}

// tasks answers how many tasks all queues together have.
func (c *Cores) tasks() int {
	n := 0
	for core := range c.Len() {
		n += c.queues[core].Len()
	}
	return n
}

// isCurrent answers whether a task is the current one of q.
func isCurrent(id int, q *runq.Queue) bool {
	current, _, ok := q.Current()
	return ok && current == id
}

// carry takes a task from one queue to another one, where it is as far above the floor as it was.
func carry(id int, from, to *runq.Queue) api.Errno {
	w, _ := from.Weight(id)
	v, _ := from.V(id)
	// What doesn't fit is brought to 0, or to the greatest number, as is asked for.
	above, _ := fixq.Sub(v, from.Floor())
	v, _ = fixq.Add(above, to.Floor())
	// Added first, so that nobody is lost where there is no room: others may have put tasks into the queue itself.
	if _, err := to.Add(id, v, w); err != api.OK {
		return err
	}
	from.Remove(id)
	return api.OK
}

// extremes answers the first core with the greatest load, the first one with the least load, and how far these are apart.
func extremes(loads []int) (int, int, int) {
	from, to := 0, 0
	for core, load := range loads {
		if load > loads[from] {
			from = core
		}
		if load < loads[to] {
			to = core
		}
	}
	return from, to, loads[from] - loads[to]
}

// lighter answers the first ready task that weighs less than d; Nobody, if there is none.
func lighter(q *runq.Queue, d int) int {
	for id := range q.Ready() {
		if w, _ := q.Weight(id); w < d {
			return id
		}
	}
	return api.Nobody
}
