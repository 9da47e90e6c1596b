package ledger_test

import (
	"math"
	"slices"
	"testing"

	"forelock/ledger"
)

// bring is a number, and what it is brought to.
type bring struct {
	n, is int
}

func weights() []bring {
	return []bring{
		{math.MinInt, 1}, {math.MinInt + 1, 1}, {-16, 1}, {-1, 1}, {0, 1}, {1, 1}, {2, 2}, {3, 3}, {7, 7}, {8, 8}, {15, 15}, {16, 16},
		{17, 16}, {18, 16}, {32, 16}, {4096, 16}, {1 << 32, 16}, {1<<32 + 3, 16}, {math.MaxInt - 1, 16}, {math.MaxInt, 16},
	}
}

func spans() []bring {
	return []bring{
		{math.MinInt, 1}, {math.MinInt + 1, 1}, {-32, 1}, {-1, 1}, {0, 1}, {1, 1}, {2, 2}, {5, 5}, {16, 16}, {17, 17}, {31, 31}, {32, 32},
		{33, 32}, {34, 32}, {64, 32}, {1 << 32, 32}, {1<<32 + 3, 32}, {math.MaxInt - 1, 32}, {math.MaxInt, 32},
	}
}

// ones is so many weights of 1.
func ones(n int) []int {
	return slices.Repeat([]int{1}, n)
}

func TestExample(t *testing.T) {
	x := newTwin(t, []int{2, 1}, 1, 1)
	x.charge(0, 1, true)
	x.charge(1, 1, true)
	x.v(360360, 720720, 0)
	x.held(1, 1, 0)
}

func TestNewOfSoMany(t *testing.T) {
	for _, n := range []bring{{0, 0}, {1, 1}, {2, 2}, {3, 3}, {6, 6}, {7, 7}, {8, 8}, {9, 8}, {10, 8}, {16, 8}, {64, 8}, {65, 8}, {300, 8}} {
		x := newTwin(t, ones(n.n), 2, 3)
		both(x, "Len", n.is, book.Len)
		x.charge(n.is, 1, false)
		x.weigh(n.is, 4, false)
		x.weight(n.is, 0)
		x.settle(most, 0, 1<<n.is-1)
		for p := range n.is {
			x.weight(p, 1)
			x.charge(p, 1, true)
		}
		x.least(^uint64(0)<<n.is, -1)
		x.v(append(slices.Repeat([]uint64{lockUnit}, n.is), 0, 0)...)
		if t.Failed() {
			t.Fatalf("New of %d weights", n.n)
		}
	}
}

// A list may be nil, and there may be more behind it, that isn't in it.
func TestNewOfOtherLists(t *testing.T) {
	newTwin(t, nil, 1, 1)
	newTwin(t, []int{}, 1, 1)
	long := []int{3, 4, 5, 6}
	x := newTwin(t, long[1:3], 1, 1)
	both(x, "Len", 2, book.Len)
	x.weight(0, 4)
	x.weight(1, 5)
	if !slices.Equal(long, []int{3, 4, 5, 6}) {
		t.Error(long)
	}
}

func TestNewBringsWeights(t *testing.T) {
	for at := range 8 {
		for _, w := range weights() {
			l := ones(8)
			l[at] = w.n
			x := newTwin(t, l, 1, 1)
			x.weight(at, w.is)
			x.charge(at, 1, true)
			both(x, "V", uint64(lockUnit/w.is), func(b book) uint64 { return b.V(at) })
			if t.Failed() {
				t.Fatalf("New of a weight of %d", w.n)
			}
		}
	}
}

// The slice is seen in Weigh, slice and section in Settle of one who comes.
func TestNewBringsSliceAndSection(t *testing.T) {
	for _, slice := range spans() {
		for _, crit := range spans() {
			x := newTwin(t, ones(2), slice.n, crit.n)
			x.lift(most, most)
			x.settle(1, uint64(slice.is+crit.is)*lockUnit, 1)
			x.lift(0, most)
			floor := x.l.Floor()
			x.weigh(1, 2, true)
			x.v(0, floor+uint64(slice.is)*lockUnit/2)
			x.lift(0, most)
			x.weigh(1, 1, true)
			x.v(0, floor+uint64(slice.is)*lockUnit)
			if t.Failed() {
				t.Fatalf("New with a slice of %d, a section of %d", slice.n, crit.n)
			}
		}
	}
}

// R4: what was handed in isn't kept.
func TestNewKeepsNoList(t *testing.T) {
	l := []int{1, 2, 3}
	x := &twin{t, ledger.New(l, 1, 1), newPlain(slices.Clone(l), 1, 1)}
	for i := range l {
		l[i] = 16
	}
	for p := range 3 {
		x.weight(p, p+1)
		x.charge(p, 1, true)
	}
	x.v(lockUnit, lockUnit/2, lockUnit/3)
	x.weigh(1, 5, true)
	x.weigh(2, 6, true)
	if !slices.Equal(l, []int{16, 16, 16}) {
		t.Error("the list that was handed in is", l)
	}
}

func TestChargeOfEachWeight(t *testing.T) {
	costs := []uint64{
		720720, 360360, 240240, 180180, 144144, 120120, 102960, 90090, 80080, 72072, 65520, 60060, 55440, 51480, 48048, 45045,
	}
	for at, cost := range costs {
		x := newTwin(t, []int{1, at + 1, 16}, 2, 3)
		for n := range 40 {
			x.charge(1, 1, true)
			x.v(0, uint64(n+1)*cost, 0)
			x.held(0, n+1, 0)
		}
		both(x, "Floor", 0, book.Floor)
		both(x, "Active", 0, book.Active)
	}
}

func TestChargeOfEachParty(t *testing.T) {
	x := newTwin(t, []int{1, 2, 3, 4, 5, 6, 7, 8}, 2, 3)
	for p := range 8 {
		x.charge(p, p+1, true)
	}
	// p+1 ticks by a weight of p+1.
	x.v(slices.Repeat([]uint64{lockUnit}, 8)...)
	x.held(1, 2, 3, 4, 5, 6, 7, 8)
}

func TestChargeOfNone(t *testing.T) {
	for n := range 9 {
		x := newTwin(t, ones(n), 2, 3)
		for _, p := range numbers() {
			if p < 0 || p >= n {
				x.charge(p, 1, false)
			}
		}
		x.v(make([]uint64, n)...)
		x.held(make([]int, n)...)
	}
}

// Near the greatest number V comes to that, and stays there; what was held goes on.
func TestChargeAtTheEnd(t *testing.T) {
	for w := 1; w <= 16; w++ {
		cost := uint64(lockUnit / w)
		for _, c := range []struct {
			from uint64
			want []uint64
		}{
			{most - cost, []uint64{most, most, most}},
			{most - cost - 1, []uint64{most - 1, most, most}},
			{most - cost + 1, []uint64{most, most, most}},
			{most - 2*cost, []uint64{most - cost, most, most}},
			{most - 2*cost - 5, []uint64{most - cost - 5, most - 5, most, most}},
			{most - 1, []uint64{most, most}},
			{most, []uint64{most, most}},
			{1<<63 - 1, []uint64{1<<63 - 1 + cost, 1<<63 - 1 + 2*cost}},
		} {
			x := newTwin(t, []int{16, w, 1}, 2, 3)
			x.lift(0, c.from, 7)
			for at, v := range c.want {
				x.charge(1, 1, true)
				x.v(0, v, 7)
				x.held(0, at+1, 0)
			}
			if t.Failed() {
				t.Fatalf("a weight of %d from %d on", w, c.from)
			}
		}
	}
}

// Ticks, one by one, of all weights, till all V's stay.
func TestChargeAgainAndAgainToTheEnd(t *testing.T) {
	for w := 1; w <= 16; w++ {
		l := ledger.New([]int{w}, 1, 1)
		cost := uint64(lockUnit / w)
		from := uint64(most - 1000*cost - 1)
		l.Lift(0, from)
		for n := range uint64(1005) {
			if !l.Charge(0) {
				t.Fatal("Charge")
			}
			want := uint64(most)
			if n < 1000 {
				want = from + (n+1)*cost
			}
			if l.V(0) != want || l.Held(0) != int(n)+1 {
				t.Fatalf("behind %d ticks of a weight of %d: V %d, held %d; want %d", n+1, w, l.V(0), l.Held(0), want)
			}
		}
	}
}

func TestWeightOfNone(t *testing.T) {
	x := newTwin(t, []int{5, 6, 7}, 2, 3)
	for _, p := range numbers() {
		if p < 0 || p > 2 {
			x.weigh(p, 4, false)
			x.weight(p, 0)
			both(x, "V", 0, func(b book) uint64 { return b.V(p) })
			both(x, "Held", 0, func(b book) int { return b.Held(p) })
		}
	}
	x.weight(0, 5)
	x.weight(1, 6)
	x.weight(2, 7)
}

func TestLeast(t *testing.T) {
	x := newTwin(t, ones(5), 2, 3)
	x.lift(5, 3, 9, 3, 4)
	for _, c := range []struct {
		among uint64
		want  int
	}{
		{0, -1}, {1, 0}, {1 << 1, 1}, {1 << 2, 2}, {1 << 3, 3}, {1 << 4, 4}, {1 << 5, -1}, {1 << 6, -1}, {1 << 63, -1},
		{^uint64(31), -1}, {31, 1}, {most, 1}, {most - 2, 3}, {1<<1 | 1<<3, 1}, {1<<3 | 1<<4, 3}, {1<<2 | 1<<4, 4},
		{1 | 1<<2, 0}, {1<<2 | 1<<5, 2}, {1<<63 | 1<<2, 2}, {1 | 1<<3, 3}, {1 | 1<<4, 4}, {1<<0 | 1<<1, 1},
	} {
		x.least(c.among, c.want)
	}
	// Of several alike the first one: at 0, and at the greatest number as well.
	for _, v := range []uint64{0, 1, most} {
		x.lift(v, v, v, v, v)
		for s := uint64(1); s < 32; s++ {
			want := 0
			for !in(s, want) {
				want++
			}
			x.least(s, want)
		}
	}
	x.lift(most, most-1, most, most-1, most)
	x.least(31, 1)
	x.least(31-2, 3)
	x.least(1|1<<2|1<<4, 0)
}

// It hangs on V alone: neither on who is active, nor on weights or the floor.
func TestLeastOfOthers(t *testing.T) {
	x := newTwin(t, []int{16, 1, 4}, 2, 3)
	x.settle(2, 0, 2)
	x.charge(0, 3, true)
	x.charge(2, 1, true)
	x.least(5, 0)
	x.least(7, 1)
	x.charge(1, 1, true)
	x.settle(2, lockUnit, 2)
	x.least(7, 0)
	x.charge(0, 1, true)
	x.least(5, 0)
	x.charge(0, 1, true)
	x.least(5, 2)
	newTwin(t, nil, 1, 1).least(most, -1)
}

func TestNil(t *testing.T) {
	var l *ledger.Ledger
	checkEmpty(t, l)
}

// One that nobody made has no parties.
func TestZero(t *testing.T) {
	checkEmpty(t, &ledger.Ledger{})
	checkEmpty(t, ledger.New(nil, 3, 4))
	checkEmpty(t, ledger.New([]int{}, 3, 4))
}

func checkEmpty(t *testing.T, l *ledger.Ledger) {
	t.Helper()
	for _, set := range sets() {
		l.Settle(set)
		if l.Least(set) != -1 || l.Floor() != 0 || l.Active() != 0 || l.Len() != 0 {
			t.Errorf("Settle of %x: %d, %d, %x, %d", set, l.Least(set), l.Floor(), l.Active(), l.Len())
		}
		for _, p := range numbers() {
			if l.Charge(p) || l.Weigh(p, 3) || l.V(p) != 0 || l.Held(p) != 0 || l.Weight(p) != 0 || l.Behind(p, set) != 0 {
				t.Errorf("the party %d of none, and the set %x", p, set)
			}
		}
	}
}
