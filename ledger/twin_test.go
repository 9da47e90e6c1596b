package ledger_test

import (
	"math"
	"reflect"
	"slices"
	"testing"

	"forelock/ledger"
)

// book is what is asked of a ledger, and done to it.
type book interface {
	Charge(p int) bool
	Settle(active uint64)
	Weigh(p, w int) bool
	Weight(p int) int
	Least(among uint64) int
	V(p int) uint64
	Held(p int) int
	Floor() uint64
	Active() uint64
	Len() int
	Behind(p int, among uint64) int
}

// numbers is some that may be parties', and some that may not.
func numbers() []int {
	return []int{
		math.MinInt, math.MinInt + 1, -64, -2, -1, 0, 1, 2, 3, 4, 5, 6, 7, 8, 9, 63, 64, 65,
		1 << 32, 1<<32 + 1, math.MaxInt - 1, math.MaxInt,
	}
}

// sets is some of parties, and some with numbers that are none's.
func sets() []uint64 {
	l := []uint64{0, 3, 5, 6, 0x0f, 0xf0, 0x55, 0xaa, 0xff, 1 << 8, 1<<8 | 1, 1 << 63, 1<<63 | 2, ^uint64(0xff), most}
	for p := range 8 {
		l = append(l, 1<<p, 0xff-1<<p)
	}
	return l
}

// all is each set of eight parties.
func all() []uint64 {
	var l []uint64
	for s := range uint64(1 << 8) {
		l = append(l, s)
	}
	return l
}

// told is all that a ledger tells.
type told struct {
	Len           int
	Floor, Active uint64
	Weight, Held  []int
	V             []uint64
	Least         []int
	Behind        [][]int
}

// tell asks a ledger for all it tells, of these sets.
func tell(b book, sets []uint64) told {
	s := told{Len: b.Len(), Floor: b.Floor(), Active: b.Active()}
	for _, p := range numbers() {
		s.Weight, s.Held, s.V = append(s.Weight, b.Weight(p)), append(s.Held, b.Held(p)), append(s.V, b.V(p))
		var behind []int
		for _, set := range sets {
			behind = append(behind, b.Behind(p, set))
		}
		s.Behind = append(s.Behind, behind)
	}
	for _, set := range sets {
		s.Least = append(s.Least, b.Least(set))
	}
	return s
}

// twin is a ledger, and a plain one to which just the same is done: behind each call they tell the same.
type twin struct {
	*testing.T
	l *ledger.Ledger
	p *plain
}

func newTwin(t *testing.T, weights []int, slice, crit int) *twin {
	t.Helper()
	given := slices.Clone(weights)
	x := &twin{t, ledger.New(weights, slice, crit), newPlain(given, slice, crit)}
	if !slices.Equal(weights, given) {
		t.Errorf("New has changed %v to %v", given, weights)
	}
	x.check(sets())
	return x
}

// check holds all that the ledger tells against what the plain one does, and asks twice: to ask changes nothing.
func (x *twin) check(sets []uint64) {
	x.Helper()
	want := tell(x.p, sets)
	for range 2 {
		if got := tell(x.l, sets); !reflect.DeepEqual(got, want) {
			x.Errorf("it tells %+v; want %+v", got, want)
		}
	}
}

// both does a call to both, which answer what is wanted.
func both[A comparable](x *twin, what string, want A, call func(b book) A) {
	x.Helper()
	if got := call(x.p); got != want {
		x.Errorf("%s: the plain one answers %v; want %v", what, got, want)
	}
	if got := call(x.l); got != want {
		x.Errorf("%s: %v; want %v", what, got, want)
	}
	x.check(sets())
}

// turn does something to both.
func (x *twin) turn(do func(b book)) {
	x.Helper()
	do(x.p)
	do(x.l)
	x.check(sets())
}

// lift gives parties these V's, from the first one on.
func (x *twin) lift(vs ...uint64) {
	x.Helper()
	for p, v := range vs {
		x.l.Lift(p, v)
		x.p.Lift(p, v)
	}
	x.check(sets())
}

// charge charges a party so many ticks.
func (x *twin) charge(p, ticks int, want bool) {
	x.Helper()
	for range ticks {
		both(x, "Charge", want, func(b book) bool { return b.Charge(p) })
	}
}

// settle settles, and holds the floor and the set of the active ones behind that against these.
func (x *twin) settle(active, floor, isActive uint64) {
	x.Helper()
	x.turn(func(b book) { b.Settle(active) })
	both(x, "Floor", floor, book.Floor)
	both(x, "Active", isActive, book.Active)
}

func (x *twin) weigh(p, w int, want bool) {
	x.Helper()
	both(x, "Weigh", want, func(b book) bool { return b.Weigh(p, w) })
}

func (x *twin) weight(p, want int) {
	x.Helper()
	both(x, "Weight", want, func(b book) int { return b.Weight(p) })
}

func (x *twin) least(among uint64, want int) {
	x.Helper()
	both(x, "Least", want, func(b book) int { return b.Least(among) })
}

// v holds the V's of the first parties against these.
func (x *twin) v(want ...uint64) {
	x.Helper()
	for p, v := range want {
		both(x, "V", v, func(b book) uint64 { return b.V(p) })
	}
}

// held holds the ticks of the first parties against these.
func (x *twin) held(want ...int) {
	x.Helper()
	for p, n := range want {
		both(x, "Held", n, func(b book) int { return b.Held(p) })
	}
}

func (x *twin) behind(p int, among uint64, want int) {
	x.Helper()
	both(x, "Behind", want, func(b book) int { return b.Behind(p, among) })
}
