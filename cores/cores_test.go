package cores_test

import (
	"math"
	"slices"
	"testing"

	"forelock/api"
	"forelock/cores"
)

// wide is numbers that are far from what may be.
func wide() []int {
	return []int{math.MinInt, math.MinInt + 1, -1 << 32, -100, -1, 0, 1, 2, 3, 4, 5, 8, 9, 16, 17, 1 << 32, 1<<32 + 1, math.MaxInt - 1, math.MaxInt}
}

func TestNew(t *testing.T) {
	for _, n := range [][2]int{
		{math.MinInt, 1}, {math.MinInt + 1, 1}, {-4, 1}, {-1, 1}, {0, 1}, {1, 1}, {2, 2}, {3, 3}, {4, 4},
		{5, 4}, {6, 4}, {100, 4}, {1 << 32, 4}, {1<<32 + 2, 4}, {math.MaxInt - 1, 4}, {math.MaxInt, 4},
	} {
		for _, g := range [][2]int{
			{math.MinInt, 1}, {math.MinInt + 1, 1}, {-8, 1}, {-1, 1}, {0, 1}, {1, 1}, {2, 2}, {3, 3}, {5, 5}, {7, 7}, {8, 8},
			{9, 8}, {10, 8}, {16, 8}, {1 << 32, 8}, {1<<32 + 3, 8}, {math.MaxInt - 1, 8}, {math.MaxInt, 8},
		} {
			checkNew(t, n[0], g[0], n[1], g[1])
		}
	}
}

// checkNew holds New of both numbers against what they are brought to: the grain is seen in the reach, and in how long one may run on, of each queue.
func checkNew(t *testing.T, n, grain, isN, isGrain int) {
	t.Helper()
	x := newTwin(t, n, grain)
	both(x, "Len", several.Len, isN)
	x.loads(make([]int, isN)...)
	for core := range isN {
		one, other := 3*core, 3*core+1
		x.add(core, one, most, 1, uint64(isGrain)*coreUnit)
		x.pick(core, one)
		x.add(core, other, 0, 1, 0)
		x.ticks(core, one, isGrain-1)
		x.due(core, false)
		x.ticks(core, one, 1)
		x.due(core, true)
		x.of(one, core)
	}
	if t.Failed() {
		t.Fatalf("New(%d, %d)", n, grain)
	}
}

// All queues of a Cores are others, and so are those of two.
func TestQueuesAreSeveral(t *testing.T) {
	one, other := cores.New(4, 2), cores.New(4, 2)
	for core := range 4 {
		for c := range 4 {
			if (one.Queue(core) == one.Queue(c)) != (core == c) || one.Queue(core) == other.Queue(c) {
				t.Errorf("the queues %d and %d", core, c)
			}
		}
		for _, c := range wide() {
			if (one.Queue(c) == nil) != (c < 0 || c > 3) {
				t.Errorf("Queue(%d)", c)
			}
		}
	}
}

// What is done to a queue that was handed out is told by the cores as well.
func TestQueueHandedOut(t *testing.T) {
	x := newTwin(t, 3, 2)
	x.pick(1, nobody)
	x.add(1, 4, 0, 3, 0)
	x.add(1, 2, 5, 2, 5)
	// Pick: it is current for Move, and doesn't go by Balance.
	x.pick(1, 4)
	x.move(4, 0, api.ErrBusy)
	x.balance(2, 1, 0)
	x.stay()
	x.move(2, 1, api.OK)
	// Tick: its V is told when it leaves.
	x.ticks(1, 4, 2)
	x.due(1, true)
	x.back(1, 4)
	// Back: it may go.
	x.move(4, 2, api.OK)
	x.v(2, 4, 2*(coreUnit/3))
	x.move(4, 1, api.OK)
	// Weigh: it counts in Loads, in where Balance takes from, and in what goes; it stays behind Move.
	x.weighThere(1, 2, 7, true)
	x.weighThere(0, 4, 9, false)
	x.weighThere(1, 5, 9, false)
	x.loads(0, 10, 0)
	x.balance(2, 1, 0)
	x.loads(7, 3, 0)
	// Its V is brought to the reach of 8: 2 ticks, each of coreUnit/8.
	x.weighThere(1, 4, 8, true)
	x.v(1, 4, coreUnit/4)
	x.weighThere(1, 4, 1, true)
	x.weighThere(0, 2, 1, true)
	x.loads(1, 1, 0)
	x.stay()
	// Settle: who moves there is as far above the floor there.
	x.remove(2, 5, true)
	x.settleThere(1, coreUnit/4)
	x.add(0, 2, 6, 5, 6)
	x.move(2, 1, api.OK)
	x.v(1, 2, coreUnit/4+6)
	x.settleThere(1, coreUnit/4)
	x.remove(2, coreUnit/4+6, true)
	x.remove(4, coreUnit/4, true)
}

// What is done by the cores is told by a queue that was handed out ahead of it.
func TestQueueTellsWhatCoresDo(t *testing.T) {
	c := cores.New(2, 1)
	q, r := c.Queue(0), c.Queue(1)
	c.Add(0, 7, 3, 5)
	if v, ok := q.V(7); v != 3 || !ok || q.Load() != 5 || r.Len() != 0 {
		t.Error("Add")
	}
	c.Weigh(7, 6)
	if q.Load() != 6 {
		t.Error("Weigh")
	}
	c.Settle()
	if q.Floor() != 3 || r.Floor() != 0 {
		t.Error("Settle")
	}
	c.Move(7, 1)
	if v, ok := r.V(7); v != 0 || !ok || r.Load() != 6 || q.Len() != 0 {
		t.Error("Move")
	}
	c.Add(1, 8, 0, 2)
	if id, from, to, ok := c.Balance(); id != 7 || from != 1 || to != 0 || !ok || q.Load() != 6 || r.Load() != 2 {
		t.Error("Balance")
	}
	c.Remove(7)
	if q.Len() != 0 || r.Len() != 1 {
		t.Error("Remove")
	}
}

func TestAddRefused(t *testing.T) {
	x := newTwin(t, 3, 2)
	wrong := func() {
		t.Helper()
		for _, core := range wide() {
			for _, id := range wide() {
				if core < 0 || core > 2 || id < 0 {
					x.refuse(core, id, 5, 1, api.ErrArg)
				}
			}
		}
	}
	wrong()
	for id := range 16 {
		x.add(id%3, id, 0, 2, 0)
		// In that queue, and in the other ones.
		for core := range 3 {
			x.refuse(core, id, 9, 3, api.ErrMet)
			x.refuse(core, 0, 9, 3, api.ErrMet)
		}
		x.loads(2*(id/3+1), 2*((id+2)/3), 2*((id+1)/3))
	}
	wrong()
	for core := range 3 {
		for _, id := range []int{16, 17, 1 << 32, math.MaxInt} {
			x.refuse(core, id, most, math.MinInt, api.ErrFull)
		}
		x.refuse(core, 15, 0, 1, api.ErrMet)
	}
	// One who is current counts, and is met.
	x.pick(0, 0)
	x.refuse(0, 0, 0, 1, api.ErrMet)
	x.refuse(1, 0, 0, 1, api.ErrMet)
	x.refuse(1, 16, 0, 1, api.ErrFull)
	// With 15 there is room for one, in any queue.
	x.remove(4, 0, true)
	x.refuse(0, 5, 0, 1, api.ErrMet)
	x.add(2, 16, 0, 1, 0)
	x.refuse(1, 4, 0, 1, api.ErrFull)
	x.remove(0, 0, true)
	x.add(1, 4, 0, 1, 0)
	x.refuse(0, 0, 0, 1, api.ErrFull)
	wrong()
}

// All 16 may be in one queue, and then no more come to the other ones.
func TestAddAllToOne(t *testing.T) {
	for core := range 4 {
		x := newTwin(t, 4, 1)
		for id := range 15 {
			x.add(core, id, 0, 1, 0)
		}
		x.add((core+1)%4, 15, 0, 1, 0)
		for c := range 4 {
			x.refuse(c, 16, 0, 1, api.ErrFull)
		}
		x.move(15, core, api.OK)
		for c := range 4 {
			x.refuse(c, 16, 0, 1, api.ErrFull)
			x.refuse(c, 15, 0, 1, api.ErrMet)
		}
	}
}

// V is brought by the floor of that core, the weight, and the grain.
func TestAddBringsV(t *testing.T) {
	const floor = 5*coreUnit + 7
	for core := range 3 {
		for _, c := range []struct {
			v    uint64
			w    int
			want uint64
		}{
			{0, 1, floor}, {floor - 1, 1, floor}, {floor, 1, floor}, {floor + 1, 1, floor + 1}, {floor + 3*coreUnit - 1, 1, floor + 3*coreUnit - 1},
			{floor + 3*coreUnit, 1, floor + 3*coreUnit}, {floor + 3*coreUnit + 1, 1, floor + 3*coreUnit}, {most, 1, floor + 3*coreUnit},
			{most, 2, floor + 3*coreUnit/2}, {most, 4096, floor + 3<<28}, {most, 5000, floor + 3<<28}, {most, 0, floor + 3*coreUnit},
			{most, math.MinInt, floor + 3*coreUnit}, {most, math.MaxInt, floor + 3<<28},
		} {
			x := newTwin(t, 3, 3)
			x.lift(core, 5, 7)
			x.lift((core+1)%3, 2, 1)
			x.add(core, 0, c.v, c.w, c.want)
			x.of(0, core)
			x.ready(core, 0)
		}
	}
}

// Any number from 0 on may be a task's.
func TestAddOfAnyNumber(t *testing.T) {
	x := newTwin(t, 2, 1)
	for i, id := range []int{math.MaxInt, 0, 1 << 32, math.MaxInt - 1, 63, 64} {
		x.add(i%2, id, 0, 1, 0)
		x.of(id, i%2)
		x.refuse(0, id, 0, 1, api.ErrMet)
		x.refuse(1, id, 0, 1, api.ErrMet)
	}
	x.move(math.MaxInt, 1, api.OK)
	x.weigh(math.MaxInt, 5, true)
	x.loads(2, 8)
	x.remove(math.MaxInt, 0, true)
	x.ready(0, 63, 1<<32)
}

func TestRemove(t *testing.T) {
	x := newTwin(t, 4, 2)
	for _, id := range numbers() {
		x.remove(id, 0, false)
	}
	for core := range 4 {
		x.add(core, core, 0, 2, 0)
		x.add(core, core+4, uint64(core+9), 1, uint64(core+9))
		x.pick(core, core)
		x.ticks(core, core, core+1)
	}
	for _, id := range []int{8, 9, -1, math.MinInt, math.MaxInt, 1 << 32} {
		x.remove(id, 0, false)
	}
	x.loads(3, 3, 3, 3)
	for core := range 4 {
		// A current one: the others stay, and none is current there.
		x.remove(core, uint64(core+1)*coreUnit/2, true)
		x.of(core, -1)
		x.remove(core, 0, false)
		x.current(core, nobody, 0)
		// A ready one.
		x.remove(core+4, uint64(core+9), true)
		x.of(core+4, -1)
		x.remove(core+4, 0, false)
	}
	x.loads(0, 0, 0, 0)
}

// Who was removed may come again, to another core, and nothing of it is kept.
func TestAddAgainElsewhere(t *testing.T) {
	x := newTwin(t, 4, 2)
	x.lift(2, 3, 4)
	for core := range 4 {
		for to := range 4 {
			floor := uint64(0)
			if to == 2 {
				floor = 3*coreUnit + 4
			}
			x.add(core, 7, most, 3, x.p.cores[core].floor+2*(coreUnit/3))
			x.weigh(7, 2, true)
			x.remove(7, x.p.cores[core].floor+2*(coreUnit/3), true)
			x.add(to, 7, 0, 5, floor)
			x.of(7, to)
			x.refuse(core, 7, 0, 1, api.ErrMet)
			want := make([]int, 4)
			want[to] = 5
			x.loads(want...)
			x.remove(7, floor, true)
		}
	}
}

func TestWeigh(t *testing.T) {
	x := newTwin(t, 3, 4)
	for _, id := range numbers() {
		x.weigh(id, 5, false)
	}
	for core := range 3 {
		x.add(core, core, 0, 1, 0)
		x.add(core, core+3, 4*coreUnit, 1, 4*coreUnit)
		x.pick(core, core)
		x.ticks(core, core, 1)
	}
	for core := range 3 {
		// A ready one: its V is brought.
		x.weigh(core+3, 4, true)
		x.v(core, core+3, coreUnit)
		// A current one: it has run its grain, if its weight was another one.
		x.weigh(core, 1, true)
		x.current(core, core, 1)
		x.weigh(core, 10+core, true)
		x.current(core, core, 4)
		x.weigh(core, 10+core, true)
		x.ticks(core, core, 1)
		x.weigh(core, 10+core, true)
		x.current(core, core, 5)
	}
	x.loads(14, 15, 16)
	for _, id := range []int{6, 7, -1, math.MinInt, math.MaxInt, 1 << 32} {
		x.weigh(id, 5, false)
	}
	x.remove(4, coreUnit, true)
	x.weigh(4, 2, false)
	x.loads(14, 11, 16)
}

func TestWeighBrings(t *testing.T) {
	for _, c := range [][2]int{
		{math.MinInt, 1}, {-1, 1}, {0, 1}, {1, 1}, {2, 2}, {16, 16}, {17, 17}, {4095, 4095}, {4096, 4096}, {4097, 4096}, {1 << 32, 4096}, {math.MaxInt, 4096},
	} {
		x := newTwin(t, 2, 1)
		x.add(1, 3, 0, 9, 0)
		x.weigh(3, c[0], true)
		x.loads(0, c[1])
		x.add(0, 2, 0, c[0], 0)
		x.loads(c[1], c[1])
		x.move(2, 1, api.OK)
		x.loads(0, 2*c[1])
	}
}

func TestSettle(t *testing.T) {
	x := newTwin(t, 4, 2)
	x.floors(0, 0, 0, 0)
	x.add(0, 0, 5, 1, 5)
	x.add(1, 1, coreUnit, 1, coreUnit)
	x.add(1, 2, 9, 1, 9)
	x.add(3, 3, 7, 1, 7)
	// The current one counts, be it the first one or not; with none there the floor stays.
	x.pick(0, 0)
	x.ticks(0, 0, 1)
	x.pick(3, 3)
	x.floors(coreUnit+5, 9, 0, 7)
	x.ticks(3, 3, 2)
	x.remove(2, 9, true)
	x.remove(0, coreUnit+5, true)
	x.floors(coreUnit+5, coreUnit, 0, 2*coreUnit+7)
	x.floors(coreUnit+5, coreUnit, 0, 2*coreUnit+7)
	x.remove(1, coreUnit, true)
	x.remove(3, 2*coreUnit+7, true)
	x.floors(coreUnit+5, coreUnit, 0, 2*coreUnit+7)
}

// The list that Loads answers is the caller's own.
func TestLoadsIsTheCallers(t *testing.T) {
	x := newTwin(t, 3, 1)
	x.add(0, 0, 0, 5, 0)
	x.add(2, 1, 0, 3, 0)
	l := x.c.Loads()
	for i := range l {
		l[i] = 100 * i
	}
	x.loads(5, 0, 3)
	x.move(1, 1, api.OK)
	kept, more := x.c.Loads(), x.c.Loads()
	x.weigh(0, 8, true)
	x.add(2, 2, 0, 4, 0)
	more[0] = 9
	if want := []int{5, 3, 0}; !slices.Equal(kept, want) {
		t.Errorf("a list that was kept is %v; want %v", kept, want)
	}
	_ = append(x.c.Loads(), 4, 5)
	x.loads(8, 3, 4)
}

func TestOfNil(t *testing.T) {
	var c *cores.Cores
	for _, n := range wide() {
		if c.Queue(n) != nil {
			t.Error("Queue: not nil")
		}
		if c.Of(n) != -1 {
			t.Errorf("Of: %d", c.Of(n))
		}
		for _, m := range wide() {
			if v, err := c.Add(n, m, 5, 2); v != 0 || err != api.ErrArg {
				t.Errorf("Add: %d, error %d", v, err)
			}
			if err := c.Move(n, m); err != api.ErrArg {
				t.Errorf("Move: error %d", err)
			}
			if c.Weigh(n, m) {
				t.Error("Weigh: true")
			}
		}
		if v, ok := c.Remove(n); v != 0 || ok {
			t.Errorf("Remove: %d, %t", v, ok)
		}
	}
	if id, from, to, ok := c.Balance(); id != nobody || from != -1 || to != -1 || ok {
		t.Errorf("Balance: %d, %d, %d, %t", id, from, to, ok)
	}
	c.Settle()
	if c.Len() != 0 || len(c.Loads()) != 0 {
		t.Errorf("Len: %d, Loads: %v", c.Len(), c.Loads())
	}
}

// Cores that New didn't make are none, and may be asked all the same.
func TestOfZero(t *testing.T) {
	var c cores.Cores
	if v, err := c.Add(0, 0, 0, 1); v != 0 || err != api.ErrArg {
		t.Errorf("Add: %d, error %d", v, err)
	}
	if _, ok := c.Remove(0); ok || c.Weigh(0, 1) || c.Of(0) != -1 || c.Queue(0) != nil || c.Len() != 0 || len(c.Loads()) != 0 {
		t.Error("there is somebody, or a core")
	}
	if _, _, _, ok := c.Balance(); ok || c.Move(0, 0) != api.ErrNone {
		t.Error("somebody goes")
	}
	c.Settle()
}

// Two cores side by side: of what is done to one the other one tells nothing.
func TestTwoSideBySide(t *testing.T) {
	one, other := newTwin(t, 3, 2), newTwin(t, 3, 2)
	for _, x := range []*twin{one, other} {
		x.add(0, 1, 0, 5, 0)
		x.add(0, 2, 3, 2, 3)
		x.add(1, 3, 0, 1, 0)
		x.pick(0, 1)
	}
	one.ticks(0, 1, 3)
	one.settleThere(0, 3)
	one.back(0, 1)
	one.move(1, 2, api.OK)
	one.weigh(2, 4096, true)
	one.move(2, 1, api.OK)
	one.remove(3, 0, true)
	one.add(2, 3, 0, 1, 0)
	one.floors(3, 0, 0)
	other.check()
	other.loads(7, 1, 0)
	other.current(0, 1, 0)
	other.v(0, 2, 3)
	other.balance(2, 0, 2)
	one.loads(0, 4096, 6)
}
