package runq

import (
	"testing"

	"forelock/api"
)

// checkShape holds a queue's inside against what its calls rely on.
func checkShape(t *testing.T, q *Queue) {
	t.Helper()
	all, ready := 0, 0
	for k, x := range q.tasks.All() {
		all++
		if k != byNumber(x.ID) || x.ID < 0 || x.weight < 1 || x.weight > mostWeight || x.V < q.floor {
			t.Fatalf("at %v stands %+v, with the floor at %d", k, *x, q.floor)
		}
		if r, ok := q.ready.Find(x.Key); ok != (x != q.current) || ok && r != x {
			t.Fatalf("%+v is current, and ready, or neither", *x)
		}
	}
	for k, x := range q.ready.All() {
		ready++
		if k != x.Key || q.find(k.ID) != x {
			t.Fatalf("at %v stands %+v", k, *x)
		}
	}
	if c := q.current; c != nil {
		ready++
		if q.find(c.ID) != c {
			t.Fatalf("%+v is current, and not there", *c)
		}
	}
	if all != ready || all > api.MaxTasks {
		t.Fatalf("there are %d, of whom %d are ready or current", all, ready)
	}
}

func TestShapeInLongRuns(t *testing.T) {
	for grain := 1; grain <= api.MaxGrain; grain++ {
		state := uint64(grain)
		next := func(n uint64) int {
			state = state*6364136223846793005 + 1442695040888963407
			return int(state >> 33 % n)
		}
		q := New(grain)
		for range 8000 {
			id, w := next(20)-1, next(30)-1
			switch next(10) {
			case 0, 1, 2:
				q.Add(id, q.floor+uint64(next(9))<<38, w)
			case 3:
				q.Remove(id)
			case 4:
				q.Weigh(id, w*w)
			case 5:
				q.Settle()
			case 6:
				q.Back()
			case 7:
				q.Pick()
			default:
				q.Tick()
			}
			checkShape(t, q)
		}
	}
}

// No calls bring the floor above a V; where it is, it stays.
func TestSettleBelowTheFloor(t *testing.T) {
	q := New(2)
	q.Add(1, 5, 1)
	q.Add(2, 7, 1)
	for range 2 {
		for _, c := range []struct{ floor, want uint64 }{{4, 5}, {5, 5}, {6, 6}, {7, 7}, {100, 100}} {
			q.floor = c.floor
			q.Settle()
			if q.Floor() != c.want {
				t.Errorf("from %d to %d; want %d", c.floor, q.Floor(), c.want)
			}
		}
		q.Pick()
	}
}
