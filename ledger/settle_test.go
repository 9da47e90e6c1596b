package ledger_test

import "testing"

func TestActive(t *testing.T) {
	for n := range 9 {
		x := newTwin(t, ones(n), 2, 3)
		ours := uint64(1)<<n - 1
		for _, s := range sets() {
			x.settle(s, 0, s&ours)
			x.settle(s, 0, s&ours)
		}
		x.settle(0, 0, 0)
		x.settle(most, 0, ours)
		x.settle(^ours, 0, 0)
	}
}

// With each set behind each other one.
func TestActiveOfAllSets(t *testing.T) {
	x := newTwin(t, ones(3), 2, 3)
	for a := range uint64(16) {
		for b := range uint64(16) {
			x.settle(a, 0, a&7)
			x.settle(b<<3|b, 0, b&7)
		}
	}
}

// Party 0 keeps the floor where it is; 1, of weight 3, comes.
func TestSettleOfOneWhoComes(t *testing.T) {
	const floor, slack = 10 * lockUnit, 5 * lockUnit / 3
	for _, c := range []struct {
		v, want uint64
	}{
		{0, floor}, {1, floor}, {floor - slack, floor}, {floor - 1, floor}, {floor, floor}, {floor + 1, floor + 1},
		{floor + lockUnit/3, floor + lockUnit/3}, {floor + 2*lockUnit/3, floor + 2*lockUnit/3}, {floor + lockUnit, floor + lockUnit},
		{floor + slack - 1, floor + slack - 1}, {floor + slack, floor + slack}, {floor + slack + 1, floor + slack},
		{floor + 5*lockUnit, floor + slack}, {1 << 63, floor + slack}, {most, floor + slack},
	} {
		x := newTwin(t, []int{1, 3, 1}, 2, 3)
		x.settle(1, 0, 1)
		x.charge(0, 10, true)
		x.settle(1, floor, 1)
		x.lift(floor, c.v, 7)
		x.settle(3, floor, 3)
		x.v(floor, c.want, 7)
		x.held(10, 0, 0)
		if t.Failed() {
			t.Fatalf("from %d", c.v)
		}
	}
}

// How far above the floor one may come hangs on its own weight.
func TestSettleBySlackOfEachWeight(t *testing.T) {
	for w := 1; w <= 16; w++ {
		x := newTwin(t, []int{1, w}, 4, 7)
		x.lift(0, most)
		x.settle(3, 0, 3)
		x.v(0, uint64(11*lockUnit/w))
		// Behind Weigh on the weight that it has then.
		x.settle(1, 0, 1)
		x.weigh(1, 17-w, true)
		x.lift(0, most)
		x.settle(3, 0, 3)
		x.v(0, uint64(11*(lockUnit/(17-w))))
	}
}

// Who was active stays where it is, wherever that is.
func TestSettleOfOneWhoWasActive(t *testing.T) {
	for _, v := range []uint64{0, 1, 2*lockUnit - 1, 2 * lockUnit, 2*lockUnit + 1, 7 * lockUnit, 7*lockUnit + 1, 1 << 63, most} {
		x := newTwin(t, ones(3), 2, 3)
		x.lift(2*lockUnit, 2*lockUnit)
		x.settle(3, 2*lockUnit, 3)
		x.lift(2*lockUnit, v, 5)
		x.settle(3, 2*lockUnit, 3)
		x.v(2*lockUnit, v, 5)
		// Also if others come, and go.
		x.settle(7, 2*lockUnit, 7)
		x.v(2*lockUnit, v, 2*lockUnit)
		x.settle(3, 2*lockUnit, 3)
		x.v(2*lockUnit, v, 2*lockUnit)
	}
}

// Who isn't active is no nearer to the floor by a Settle, till it comes.
func TestSettleOfOneWhoStaysAway(t *testing.T) {
	x := newTwin(t, ones(3), 1, 1)
	x.charge(1, 9, true)
	for n := range uint64(5) {
		x.settle(1, n*lockUnit, 1)
		x.v(n*lockUnit, 9*lockUnit, 0)
		x.charge(0, 1, true)
	}
}

func TestSettleOfOneWhoGoesAndComesBack(t *testing.T) {
	x := newTwin(t, []int{1, 2}, 1, 2)
	x.settle(3, 0, 3)
	x.charge(1, 20, true)
	x.settle(3, 0, 3)
	x.v(0, 10*lockUnit)
	// It comes back as far off as it may be.
	x.settle(1, 0, 1)
	x.v(0, 10*lockUnit)
	x.settle(3, 0, 3)
	x.v(0, 3*lockUnit/2)
	// Where it may be it stays.
	x.settle(1, 0, 1)
	x.settle(3, 0, 3)
	x.v(0, 3*lockUnit/2)
	// The floor goes on while it is away.
	x.settle(1, 0, 1)
	x.charge(0, 1, true)
	x.settle(1, lockUnit, 1)
	x.settle(3, lockUnit, 3)
	x.v(lockUnit, 3*lockUnit/2)
	x.settle(1, lockUnit, 1)
	x.charge(0, 3, true)
	x.settle(1, 4*lockUnit, 1)
	x.v(4*lockUnit, 3*lockUnit/2)
	x.settle(2, 4*lockUnit, 2)
	x.v(4*lockUnit, 4*lockUnit)
	// One goes, and another one comes, at once.
	x.charge(0, 9, true)
	x.settle(1, 7*lockUnit, 1)
	x.v(7*lockUnit, 4*lockUnit)
	x.held(13, 20)
}

// Who comes is held against the floor as it was.
func TestSettleBringsAheadOfTheFloor(t *testing.T) {
	x := newTwin(t, ones(3), 2, 3)
	x.settle(1, 0, 1)
	x.charge(0, 50, true)
	x.charge(1, 100, true)
	x.settle(3, 5*lockUnit, 3)
	x.v(50*lockUnit, 5*lockUnit, 0)
	// Of several who come, too.
	y := newTwin(t, ones(3), 2, 3)
	y.charge(0, 2, true)
	y.charge(1, 8, true)
	y.charge(2, 9, true)
	y.settle(7, 2*lockUnit, 7)
	y.v(2*lockUnit, 5*lockUnit, 5*lockUnit)
}

func TestSettleLiftsTheFloor(t *testing.T) {
	for _, c := range []struct {
		active      uint64
		floor, want uint64
	}{
		// V's are 6, 4, 9; all of them are active already, so that they stay.
		{7, 0, 4}, {7, 3, 4}, {7, 4, 4}, {7, 5, 5}, {7, 20, 20},
		{1, 0, 6}, {1, 5, 6}, {1, 6, 6}, {1, 7, 7}, {2, 3, 4}, {2, 5, 5}, {4, 8, 9}, {4, 9, 9}, {4, 10, 10},
		{5, 0, 6}, {5, 7, 7}, {6, 0, 4}, {0, 0, 0}, {0, 3, 3}, {1 << 3, 2, 2}, {^uint64(7), 1, 1}, {most, 1, 4}, {1<<63 | 4, 1, 9},
	} {
		x := newTwin(t, ones(3), 2, 3)
		x.lift(c.floor, c.floor, c.floor)
		x.settle(7, c.floor, 7)
		x.lift(6, 4, 9)
		x.settle(c.active, c.want, c.active&7)
		x.v(6, 4, 9)
		if t.Failed() {
			t.Fatalf("with %x from %d on", c.active, c.floor)
		}
	}
}

// V's of those that aren't active are nothing to it.
func TestSettleFloorOfOthers(t *testing.T) {
	x := newTwin(t, ones(8), 2, 3)
	x.charge(5, 1, true)
	x.settle(1<<5, lockUnit, 1<<5)
	x.charge(5, 2, true)
	x.settle(0, lockUnit, 0)
	x.settle(1<<5, 3*lockUnit, 1<<5)
	x.settle(1<<7, 3*lockUnit, 1<<7)
	x.v(0, 0, 0, 0, 0, 3*lockUnit, 0, 3*lockUnit)
	x.settle(0, 3*lockUnit, 0)
	x.settle(1, 3*lockUnit, 1)
}

func TestSettleAtTheEnd(t *testing.T) {
	x := newTwin(t, []int{1, 1, 16}, 2, 3)
	top := uint64(most - 5*lockUnit)
	x.lift(top)
	x.settle(1, 5*lockUnit, 1)
	x.lift(top, most, most)
	x.settle(1, top, 1)
	// Up to the greatest number: just so far, or beyond.
	x.settle(7, top, 7)
	x.v(top, most, top+5*lockUnit/16)
	x.settle(1, top, 1)
	x.charge(0, 1, true)
	x.settle(1, top+lockUnit, 1)
	x.settle(3, top+lockUnit, 3)
	x.v(top+lockUnit, most, top+5*lockUnit/16)
	x.charge(0, 3, true)
	x.settle(3, top+4*lockUnit, 3)
	x.charge(0, 1, true)
	x.settle(3, most, 3)
	x.v(most, most)
	x.charge(0, 1, true)
	x.settle(7, most, 7)
	x.v(most, most, most)
	x.settle(0, most, 0)
	x.settle(2, most, 2)
}
