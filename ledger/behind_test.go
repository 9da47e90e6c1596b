package ledger_test

import "testing"

// Gaps that are a multiple of what a tick costs, one less, and one more.
func TestBehindByGaps(t *testing.T) {
	const base = 1000
	for w := 1; w <= 16; w++ {
		cost := uint64(lockUnit / w)
		for _, c := range []struct {
			gap  uint64
			want int
		}{
			{0, 0}, {1, 1}, {2, 1}, {cost - 1, 1}, {cost, 1}, {cost + 1, 2}, {2*cost - 1, 2}, {2 * cost, 2}, {2*cost + 1, 3},
			{17*cost - 1, 17}, {17 * cost, 17}, {17*cost + 1, 18}, {1000000*cost - 1, 1000000}, {1000000 * cost, 1000000}, {1000000*cost + 1, 1000001},
		} {
			x := newTwin(t, []int{3, w}, 2, 3)
			x.lift(base+c.gap, base)
			x.behind(0, 2, c.want)
			x.behind(0, 3, c.want)
			x.behind(0, most, c.want)
			x.behind(0, 1, 0)
			x.behind(0, 0, 0)
			x.behind(1, 3, 0)
			checkLeastTicks(x, 0, 1, c.want)
			if t.Failed() {
				t.Fatalf("a gap of %d by a weight of %d", c.gap, w)
			}
		}
	}
}

// checkLeastTicks holds how many ticks other is behind p against how many it takes till it isn't any more.
func checkLeastTicks(x *twin, p, other, want int) {
	x.Helper()
	if want > 20 {
		return
	}
	for n := want; n > 0; n-- {
		x.behind(p, 1<<other, n)
		if x.l.V(other) >= x.l.V(p) {
			x.Errorf("%d is no more behind, but %d ticks are told", other, n)
		}
		x.charge(other, 1, true)
	}
	if x.l.V(other) < x.l.V(p) {
		x.Errorf("%d is behind %d still", other, p)
	}
	x.behind(p, 1<<other, 0)
}

func TestBehindSeveral(t *testing.T) {
	x := newTwin(t, []int{1, 2, 3, 16, 5}, 2, 3)
	x.lift(2*lockUnit, lockUnit, 2*lockUnit-1, 0, 3*lockUnit)
	// Of party 0: 1 has 2 ticks to go, 2 one, 3 has 32, and 4 is beyond.
	for _, c := range []struct {
		p     int
		among uint64
		want  int
	}{
		{0, 0, 0}, {0, 1, 0}, {0, 2, 2}, {0, 4, 1}, {0, 8, 32}, {0, 16, 0}, {0, 6, 3}, {0, 14, 35}, {0, 15, 35}, {0, 31, 35},
		{0, 30, 35}, {0, most, 35}, {0, 1<<5 | 2, 2}, {0, 1 << 5, 0}, {0, 1 << 63, 0}, {0, 1<<63 | 12, 33}, {0, ^uint64(31), 0},
		{4, 31, 1 + 4 + 4 + 48}, {4, 15, 57}, {4, 16, 0}, {4, 1, 1}, {4, 2, 4}, {4, 4, 4}, {4, 8, 48},
		{1, 31, 16}, {1, 2, 0}, {1, 4, 0}, {1, 8, 16}, {2, 31, 2 + 32}, {2, 1, 0}, {3, 31, 0}, {3, most, 0},
	} {
		x.behind(c.p, c.among, c.want)
	}
}

// Each of several goes on by its own, not by what others leave.
func TestBehindOfEightParties(t *testing.T) {
	x := newTwin(t, []int{1, 2, 3, 4, 5, 6, 7, 8}, 2, 3)
	x.charge(7, 16, true)
	x.behind(7, 0xff, 2*(1+2+3+4+5+6+7))
	x.behind(7, 0x7f, 2*(1+2+3+4+5+6+7))
	x.behind(7, 0x55, 2*(1+3+5+7))
	x.behind(7, 0xaa, 2*(2+4+6))
	x.charge(7, 1, true)
	// An eighth of a unit more: a tick more for each.
	x.behind(7, 0xff, 2*(1+2+3+4+5+6+7)+7)
	for p := range 7 {
		x.behind(p, 0xff, 0)
	}
	x.check(all())
}

func TestBehindOfNone(t *testing.T) {
	x := newTwin(t, ones(3), 2, 3)
	x.lift(5, most, 9)
	for _, p := range numbers() {
		if p < 0 || p > 2 {
			x.behind(p, 7, 0)
			x.behind(p, most, 0)
			x.behind(p, 0, 0)
		}
	}
}

func TestBehindAtTheEnd(t *testing.T) {
	x := newTwin(t, []int{1, 1, 16, 7}, 2, 3)
	// 2^64 - 1 is 25594882997155 times 720720, and 409518127954480 times 45045, and 15 more.
	x.lift(most, 0, 0, most)
	x.behind(0, 2, 25594882997156)
	x.behind(0, 4, 409518127954481)
	x.behind(0, 8, 0)
	x.behind(3, 1, 0)
	x.behind(0, 6, 25594882997156+409518127954481)
	x.lift(most, 15, 15, 14)
	x.behind(0, 2, 25594882997155)
	x.behind(0, 4, 409518127954480)
	x.lift(most, most-lockUnit, most-45045, most-1)
	x.behind(0, 2, 1)
	x.behind(0, 4, 1)
	x.behind(0, 8, 1)
	x.behind(0, 15, 3)
	x.lift(most, most-lockUnit-1, most-45046, most-102960*3)
	x.behind(0, 14, 2+2+3)
	x.lift(most-1, most-1, most, most)
	x.behind(2, 15, 2)
	x.behind(0, 15, 0)
}

// All seven others are as far behind as may be.
func TestBehindByTheMost(t *testing.T) {
	x := newTwin(t, []int{16, 16, 16, 16, 16, 16, 16, 16}, 32, 32)
	x.lift(0, 0, 0, 0, 0, 0, 0, most)
	x.behind(7, 0xff, 7*409518127954481)
	x.behind(7, most, 7*409518127954481)
	x.behind(0, most, 0)
}
