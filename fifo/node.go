package fifo

// nowhere is the place of a neighbour that isn't there: an arena has nothing below 0.
const nowhere = -1

// A node is a value, and where its neighbours are. The nodes are linked, as one that stands between may be taken away.
type node[T any] struct {
	value  T
	ticket int
	ahead  int
	behind int
}

// link puts a node behind all others. There must be room.
func (q *Queue[T]) link(n node[T]) {
	n.ahead, n.behind = q.last, nowhere
	at, _ := q.nodes.Put(n)
	q.setBehind(q.last, at)
	q.last = at
	q.places[n.ticket] = at
}

// unlink takes the node at a place out of its neighbours' midst.
func (q *Queue[T]) unlink(at int) node[T] {
	n, _ := q.nodes.Drop(at)
	q.setBehind(n.ahead, n.behind)
	q.setAhead(n.behind, n.ahead)
	delete(q.places, n.ticket)
	return n
}

// setBehind says who is behind the node at a place; behind nobody is the first one.
func (q *Queue[T]) setBehind(at, behind int) {
	n, ok := q.nodes.Get(at)
	if !ok {
		q.first = behind
		return
	}
	n.behind = behind
	q.nodes.Set(at, n)
}

// setAhead says who is ahead of the node at a place; ahead of nobody is the last one.
func (q *Queue[T]) setAhead(at, ahead int) {
	n, ok := q.nodes.Get(at)
	if !ok {
		q.last = ahead
		return
	}
	n.ahead = ahead
	q.nodes.Set(at, n)
}

// inOrder answers all nodes, the first one first.
func (q *Queue[T]) inOrder() []node[T] {
	if q.Len() == 0 {
		return nil
	}
	var l []node[T]
	n, ok := q.nodes.Get(q.first)
	for ok {
		l = append(l, n)
		n, ok = q.nodes.Get(n.behind)
	}
	return l
}
