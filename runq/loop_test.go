package runq_test

import (
	"slices"
	"testing"

	"forelock/runq"
)

// spots is who is ready in a queue of threes.
func spots() []spot {
	return []spot{{3, 1}, {9, 1}, {0, 4}, {7, 4}, {8, 4}, {2, 6}, {1, 9}}
}

// threes is a queue of grain 3 in which spots are ready, and 5 is current.
func threes(t *testing.T) *twin {
	t.Helper()
	x := newTwin(t, 3)
	x.add(5, 0, 3, 0)
	x.pick(5)
	for _, at := range []int{4, 2, 0, 6, 5, 1, 3} {
		s := spots()[at]
		x.add(s.id, s.v, s.id+1, s.v)
	}
	return x
}

func TestReady(t *testing.T) {
	x := threes(t)
	if got := reached(x.q.Ready(), 0); !slices.Equal(got, spots()) {
		t.Errorf("Ready: %v; want %v", got, spots())
	}
	// The current one isn't among them, but is behind Back.
	x.back(5)
	if got, want := reached(x.q.Ready(), 0), append([]spot{{5, 0}}, spots()...); !slices.Equal(got, want) {
		t.Errorf("Ready behind Back: %v; want %v", got, want)
	}
}

func TestReadyLeftEarlyAndGoneOverAgain(t *testing.T) {
	x := threes(t)
	l := spots()
	for at := range l {
		loop := x.q.Ready()
		for _, n := range []int{1, at + 1, 7, 2, at + 1, 1} {
			if got := reached(loop, n); !slices.Equal(got, l[:n]) {
				t.Errorf("left behind %d: %v; want %v", n, got, l[:n])
			}
		}
	}
	// To go over a queue takes nobody away.
	checkLike(t, x.q, x.p)
}

// What a loop says is who was ready when it was asked for, and with which V.
func TestReadyKeepsWhatItGoesOver(t *testing.T) {
	for name, turn := range map[string]func(q queue){
		"Add":            func(q queue) { q.Add(4, 0, 1); q.Add(20, 5, 1) },
		"Remove":         func(q queue) { q.Remove(3); q.Remove(7); q.Remove(1) },
		"Remove and Add": func(q queue) { q.Remove(3); q.Add(3, 7, 1) },
		"Back":           func(q queue) { q.Back() },
		"Pick":           func(q queue) { q.Remove(5); q.Pick(); q.Tick() },
		"Weigh":          func(q queue) { q.Settle(); q.Weigh(1, 4096); q.Weigh(2, 1) },
		"goes":           func(q queue) { goes(q, 40) },
		"goes and Weigh": func(q queue) { goes(q, 40); q.Weigh(3, 4096); q.Weigh(9, 4096); q.Settle() },
		"Remove of all":  func(q queue) { removeAll(q) },
	} {
		x := threes(t)
		kept := x.q.Ready()
		half := reached(kept, 3)
		turn(x.q)
		turn(x.p)
		checkLike(t, x.q, x.p)
		for range 2 {
			if got := reached(kept, 0); !slices.Equal(got, spots()) || !slices.Equal(half, spots()[:3]) {
				t.Errorf("%s: a loop that was kept says %v, and %v ahead of it; want %v", name, got, half, spots())
			}
		}
	}
}

func removeAll(q queue) {
	for _, id := range numbers() {
		q.Remove(id)
	}
}

func TestReadyWithinReady(t *testing.T) {
	q := runq.New(1)
	for _, id := range []int{3, 1, 2} {
		q.Add(id, 0, 1)
	}
	loop := q.Ready()
	var got []int
	for a := range loop {
		for b := range loop {
			got = append(got, 10*a+b)
		}
	}
	if want := []int{11, 12, 13, 21, 22, 23, 31, 32, 33}; !slices.Equal(got, want) {
		t.Errorf("a loop within the same loop: %v; want %v", got, want)
	}
}

func TestReadyOfNone(t *testing.T) {
	emptied := threes(t).q
	removeAll(emptied)
	alone := runq.New(1)
	alone.Add(1, 0, 1)
	alone.Pick()
	for i, q := range []*runq.Queue{nil, runq.New(4), emptied, alone} {
		loop := q.Ready()
		if loop == nil {
			t.Fatalf("queue %d: no loop", i)
		}
		for range 2 {
			if got := reached(loop, 1); len(got) != 0 {
				t.Errorf("queue %d: %v", i, got)
			}
		}
	}
}
