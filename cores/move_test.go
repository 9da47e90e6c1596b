package cores_test

import (
	"math"
	"testing"

	"forelock/api"
)

// spot is a floor, in ticks of weight 1 and so much more.
type spot struct {
	ticks int
	more  uint64
}

func (s spot) floor() uint64 {
	return uint64(s.ticks)*coreUnit + s.more
}

// lifted is two cores of grain 2 with no tasks, and floors there.
func lifted(t *testing.T, first, second spot) *twin {
	t.Helper()
	x := newTwin(t, 2, 2)
	x.lift(0, first.ticks, first.more)
	x.lift(1, second.ticks, second.more)
	return x
}

// above is a task above its floor, perhaps by so many ticks more, and how far it is above the floor where it goes, with a grain of 2.
type above struct {
	w     int
	by    uint64
	ticks int
	want  uint64
}

func aboves() []above {
	const third, least = 366503875925, 1 << 28
	return []above{
		{1, 0, 0, 0}, {1, 1, 0, 1}, {1, coreUnit, 0, coreUnit}, {1, 2*coreUnit - 1, 0, 2*coreUnit - 1}, {1, 2 * coreUnit, 0, 2 * coreUnit},
		{1, 0, 1, coreUnit}, {1, 0, 2, 2 * coreUnit}, {1, 1, 2, 2 * coreUnit}, {1, 0, 3, 2 * coreUnit}, {1, 2 * coreUnit, 9, 2 * coreUnit},
		{3, 0, 0, 0}, {3, 2*third - 1, 0, 2*third - 1}, {3, 2 * third, 0, 2 * third}, {3, 0, 1, third}, {3, 0, 2, 2 * third}, {3, 1, 2, 2 * third}, {3, 7, 5, 2 * third},
		{4096, 0, 0, 0}, {4096, least, 0, least}, {4096, 2 * least, 0, 2 * least}, {4096, 5, 1, least + 5}, {4096, 0, 3, 2 * least}, {4096, 0, 100, 2 * least},
	}
}

func TestMove(t *testing.T) {
	spots := []spot{{0, 0}, {0, 1}, {5, 7}, {3, 0}, {3, 1}}
	for _, from := range spots {
		for _, to := range spots {
			for _, a := range aboves() {
				checkMove(t, from, to, a)
			}
		}
	}
}

// checkMove lets one go from one floor to another one, and back.
func checkMove(t *testing.T, from, to spot, a above) {
	t.Helper()
	x := lifted(t, from, to)
	x.add(0, 3, from.floor()+a.by, a.w, from.floor()+a.by)
	x.pick(0, 3)
	x.ticks(0, 3, a.ticks)
	x.back(0, 3)
	x.move(3, 1, api.OK)
	x.of(3, 1)
	x.v(1, 3, to.floor()+a.want)
	x.loads(0, a.w)
	x.ready(1, 3)
	x.move(3, 0, api.OK)
	x.v(0, 3, from.floor()+a.want)
	x.loads(a.w, 0)
	x.floorsNow(from.floor(), to.floor())
	if t.Failed() {
		t.Fatalf("from %+v to %+v: %+v", from, to, a)
	}
}

// floorsNow asks for these floors, with no Settle.
func (x *twin) floorsNow(want ...uint64) {
	x.Helper()
	for core, floor := range want {
		if got := x.c.at(core).Floor(); got != floor {
			x.Errorf("the floor of core %d is %d; want %d", core, got, floor)
		}
	}
}

// Where it stands among those who are there is told by its V, then by its number; who is current there stays so.
func TestMoveAmongOthers(t *testing.T) {
	x := newTwin(t, 3, 2)
	x.add(1, 5, 0, 1, 0)
	x.pick(1, 5)
	x.ticks(1, 5, 2)
	x.add(1, 2, 9, 1, 9)
	x.add(1, 8, 9, 1, 9)
	x.due(1, true)
	for _, id := range []int{9, 6, 1, 4} {
		x.add(0, id, uint64(10-id%3), 1, uint64(10-id%3))
	}
	x.ready(0, 1, 4, 6, 9)
	for _, id := range []int{9, 6, 1, 4} {
		x.move(id, 1, api.OK)
	}
	x.ready(0)
	x.ready(1, 1, 2, 4, 8, 6, 9)
	x.current(1, 5, 2)
	x.remove(2, 9, true)
	x.move(8, 2, api.OK)
	x.move(1, 2, api.OK)
	x.ready(1, 4, 6, 9)
	x.ready(2, 1, 8)
	x.current(1, 5, 2)
}

// What stands first is told, where several hold.
func TestMoveRefused(t *testing.T) {
	x := newTwin(t, 3, 2)
	nowhere := func(ids ...int) {
		t.Helper()
		for _, id := range ids {
			for _, core := range wide() {
				x.move(id, core, api.ErrNone)
			}
		}
	}
	nowhere(wide()...)
	for core := range 3 {
		x.add(core, core, 0, 1, 0)
		x.add(core, core+3, 0, 1, 0)
		x.pick(core, core)
	}
	nowhere(math.MinInt, -1, 8, 9, 1<<32, 1<<32+1, math.MaxInt)
	for id := range 6 {
		// To a core that is not, ahead of what is said of a current one.
		for _, core := range wide() {
			if core < 0 || core > 2 {
				x.move(id, core, api.ErrArg)
			}
		}
		// To where it is, also ahead of that.
		x.move(id, id%3, api.ErrMet)
	}
	for id := range 3 {
		x.move(id, (id+1)%3, api.ErrBusy)
		x.move(id, (id+2)%3, api.ErrBusy)
	}
	// Who isn't current may go, and who is current no more.
	x.move(3, 1, api.OK)
	x.move(3, 1, api.ErrMet)
	x.back(0, 0)
	x.move(0, 0, api.ErrMet)
	x.move(0, 2, api.OK)
	x.remove(1, 0, true)
	nowhere(1)
	x.pick(1, 3)
	x.move(3, 0, api.ErrBusy)
	x.move(4, 0, api.OK)
}

// The one who is current at another core by then is no hindrance, nor is it one who was current ahead of that.
func TestMoveOfWhoWasCurrent(t *testing.T) {
	x := newTwin(t, 2, 1)
	x.add(0, 0, 0, 1, 0)
	x.pick(0, 0)
	x.ticks(0, 0, 1)
	x.back(0, 0)
	x.move(0, 1, api.OK)
	x.v(1, 0, coreUnit)
	x.current(1, nobody, 0)
	x.pick(1, 0)
	x.current(1, 0, 0)
	x.move(0, 0, api.ErrBusy)
	x.add(0, 1, 0, 1, 0)
	x.pick(0, 1)
	x.move(0, 0, api.ErrBusy)
	x.remove(1, 0, true)
	x.back(1, 0)
	x.move(0, 0, api.OK)
}

// All may go to one core.
func TestMoveOfAll(t *testing.T) {
	x := newTwin(t, 4, 2)
	for id := range 16 {
		x.add(id%4, id, 0, id+1, 0)
	}
	for to := range 4 {
		for id := range 16 {
			want := api.OK
			if x.p.Of(id) == to {
				want = api.ErrMet
			}
			x.move(id, to, want)
		}
		loads := make([]int, 4)
		loads[to] = 136
		x.loads(loads...)
	}
}

// rise brings the floor of a core with no tasks to 2^64 less this many ticks of weight 1, each of 2^40.
func (x *twin) rise(core, below int) {
	x.Helper()
	x.c.Add(core, 21, 0, 1)
	q := x.c.Queue(core)
	q.Pick()
	for range 1<<24 - below {
		q.Tick()
	}
	q.Settle()
	x.c.Remove(21)
	x.p.cores[core].floor = -uint64(below) * coreUnit
	x.check()
}

// V's that would be more than the greatest number are that.
func TestMoveAtTheGreatestV(t *testing.T) {
	x := newTwin(t, 4, 8)
	x.rise(0, 3)
	x.rise(1, 1)
	const floor, higher = most - 3*coreUnit + 1, most - coreUnit + 1
	// From a floor near the greatest number to 0, and back.
	x.add(0, 0, most, 1, most)
	x.move(0, 2, api.OK)
	x.v(2, 0, 3*coreUnit-1)
	x.move(0, 0, api.OK)
	x.v(0, 0, most)
	// To a higher one: what it was above that doesn't fit any more, by much and by one.
	x.move(0, 1, api.OK)
	x.v(1, 0, most)
	x.move(0, 0, api.OK)
	x.v(0, 0, floor+coreUnit-1)
	x.add(2, 1, coreUnit, 1, coreUnit)
	x.add(2, 2, coreUnit-1, 1, coreUnit-1)
	x.add(2, 3, coreUnit-2, 1, coreUnit-2)
	x.add(2, 4, 8*coreUnit, 1, 8*coreUnit)
	x.move(1, 1, api.OK)
	x.v(1, 1, most)
	x.move(2, 1, api.OK)
	x.v(1, 2, most)
	x.move(3, 1, api.OK)
	x.v(1, 3, most-1)
	x.move(4, 1, api.OK)
	x.v(1, 4, most)
	// At the floor it stays at the floor.
	x.add(1, 5, 0, 1, higher)
	x.move(5, 0, api.OK)
	x.v(0, 5, floor)
	x.move(5, 3, api.OK)
	x.v(3, 5, 0)
	// A floor at the greatest number itself: there all have the same V.
	for _, id := range []int{1, 2} {
		x.move(id, 0, api.OK)
		x.v(0, id, floor+coreUnit-1)
	}
	x.settleThere(1, most-1)
	x.remove(3, most-1, true)
	x.settleThere(1, most)
	x.move(0, 1, api.OK)
	x.v(1, 0, most)
	x.move(5, 1, api.OK)
	x.v(1, 5, most)
	x.move(5, 3, api.OK)
	x.v(3, 5, 0)
	x.balance(1, 0, 2)
	x.v(2, 1, coreUnit-1)
}
