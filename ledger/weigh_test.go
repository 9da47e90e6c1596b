package ledger_test

import "testing"

// With the weight that it has, or one that is brought to that, its V stays, wherever that is.
func TestWeighOfTheSame(t *testing.T) {
	const floor = 10 * lockUnit
	for _, w := range weights() {
		for _, v := range []uint64{0, floor - 1, floor, floor + 1, floor + 2*lockUnit, floor + 100*lockUnit, most} {
			x := newTwin(t, []int{1, w.is}, 2, 3)
			x.settle(1, 0, 1)
			x.lift(floor)
			x.settle(1, floor, 1)
			x.lift(floor, v)
			x.weigh(1, w.n, true)
			x.weight(1, w.is)
			x.v(floor, v)
			if t.Failed() {
				t.Fatalf("Weigh with %d of one of %d, from %d", w.n, w.is, v)
			}
		}
	}
}

// With another one it is brought to the floor up to as many ticks of that weight as the slice has.
func TestWeighOfAnother(t *testing.T) {
	const floor, slice = 10 * lockUnit, 3
	for _, w := range weights() {
		reach := uint64(slice * (lockUnit / w.is))
		for _, c := range []struct {
			v, want uint64
		}{
			{0, floor}, {floor - reach, floor}, {floor - 1, floor}, {floor, floor}, {floor + 1, floor + 1},
			{floor + reach/3, floor + reach/3}, {floor + reach - 1, floor + reach - 1}, {floor + reach, floor + reach},
			{floor + reach + 1, floor + reach}, {floor + 100*lockUnit, floor + reach}, {most, floor + reach},
		} {
			for _, was := range []int{1, 4} {
				if was != w.is {
					checkWeigh(t, was, w, floor, c.v, c.want)
				}
			}
		}
	}
}

func checkWeigh(t *testing.T, was int, w bring, floor, v, want uint64) {
	t.Helper()
	for _, active := range []uint64{1, 3} {
		x := newTwin(t, []int{1, was, 2}, 3, 9)
		x.settle(active, 0, active)
		x.lift(floor, floor)
		x.settle(active, floor, active)
		x.lift(floor, v, 7)
		x.weigh(1, w.n, true)
		x.weight(1, w.is)
		x.v(floor, want, 7)
		// A tick costs what it weighs now.
		x.charge(1, 1, true)
		x.v(floor, want+uint64(lockUnit/w.is), 7)
		both(x, "Floor", floor, book.Floor)
		both(x, "Active", active, book.Active)
		x.held(0, 1, 0)
		if t.Failed() {
			t.Fatalf("Weigh with %d of one of %d, from %d", w.n, was, v)
		}
	}
}

func TestWeighOfEachParty(t *testing.T) {
	x := newTwin(t, ones(8), 1, 1)
	for p := range 8 {
		x.weigh(p, p+2, true)
		for other := range 8 {
			want := other + 2
			if other > p {
				want = 1
			}
			x.weight(other, want)
		}
	}
}

func TestWeighOfEachSlice(t *testing.T) {
	for slice := 1; slice <= 32; slice++ {
		x := newTwin(t, ones(2), slice, 33-slice)
		x.lift(0, most)
		x.weigh(1, 7, true)
		x.v(0, uint64(slice*(lockUnit/7)))
	}
}

func TestWeighAtTheEnd(t *testing.T) {
	const floor = most - 2*lockUnit
	x := newTwin(t, ones(2), 3, 32)
	x.lift(floor, most)
	x.settle(1, 35*lockUnit, 1)
	x.lift(floor, most)
	x.settle(1, floor, 1)
	// Not so far as to the greatest number; just so far; beyond.
	x.weigh(1, 2, true)
	x.v(floor, floor+3*lockUnit/2)
	x.lift(floor, most)
	x.weigh(1, 1, true)
	x.v(floor, most)
	x.weigh(1, 16, true)
	x.v(floor, floor+3*lockUnit/16)
	x.lift(most, most)
	x.settle(3, most, 3)
	x.weigh(0, 5, true)
	x.weigh(1, 5, true)
	x.v(most, most)
}
