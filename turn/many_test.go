package turn_test

import (
	"testing"

	"forelock/api"
	"forelock/turn"
)

// plain is a turn as the chapter tells it, by conditions alone.
type plain struct{ party, used int }

func (p plain) turn() api.Turn {
	return api.Turn{Party: p.party, Used: p.used}
}

// has is how many ticks a slice has.
func has(slice int) int {
	switch {
	case slice < 1:
		return 1
	case slice > 16:
		return 16
	}
	return slice
}

func (p plain) may(slice, party int) bool {
	if party < 0 || party != p.party {
		return false
	}
	return p.used < has(slice)
}

// waits is whether somebody is in the set, and whether the turn's party is.
func (p plain) waits(waiting uint64) (anybody, itself bool) {
	for i := range 64 {
		if waiting>>i%2 == 1 {
			anybody = true
			itself = itself || i == p.party
		}
	}
	return anybody, itself
}

func (p plain) next(slice int, waiting uint64, first int) plain {
	switch anybody, itself := p.waits(waiting); {
	case !anybody:
		return p
	case itself && p.may(slice, p.party):
		return p
	}
	return plain{first, 0}
}

func (p plain) spend() plain {
	if p.used >= 1<<31 {
		return p
	}
	return plain{p.party, p.used + 1}
}

func (p plain) end(slice int) plain {
	if p.used < has(slice) {
		return plain{p.party, has(slice)}
	}
	return p
}

func (p plain) left(slice int) int {
	switch {
	case p.used < 0:
		return has(slice)
	case p.used > has(slice):
		return 0
	}
	return has(slice) - p.used
}

// checkAll holds what each call answers of a turn against the conditions.
func checkAll(t *testing.T, p plain, slice, party int, waiting uint64) {
	t.Helper()
	checkNext(t, p.turn(), slice, waiting, party, p.next(slice, waiting, party).turn())
	checkMay(t, p.turn(), slice, party, p.may(slice, party))
	checkMay(t, p.turn(), slice, p.party, p.may(slice, p.party))
	checkSpend(t, p.turn(), p.spend().turn())
	checkEnd(t, p.turn(), slice, p.end(slice).turn())
	checkLeft(t, p.turn(), slice, p.left(slice))
}

// Each edge of each argument beside each of the others.
func TestEdges(t *testing.T) {
	parties := []int{least, least + 1, -65, -64, -2, -1, 0, 1, 2, 31, 63, 64, 65, 1 << 32, 1<<32 + 1, most - 1, most}
	used := []int{least, least + 1, -end, -17, -1, 0, 1, 2, 3, 14, 15, 16, 17, end - 1, end, end + 1, most - 1, most}
	sets := []uint64{0, 1, 2, 3, 6, 1 << 31, 1 << 63, 1<<63 | 1, every - 1, every - 2, every >> 1, every}
	for _, party := range parties {
		for _, n := range used {
			p := plain{party, n}
			checkSpend(t, p.turn(), p.spend().turn())
			for _, s := range edges() {
				checkEnd(t, p.turn(), s[0], p.end(s[0]).turn())
				checkLeft(t, p.turn(), s[0], p.left(s[0]))
				for _, other := range parties {
					checkMay(t, p.turn(), s[0], other, p.may(s[0], other))
					for _, waiting := range sets {
						checkNext(t, p.turn(), s[0], waiting, other, p.next(s[0], waiting, other).turn())
					}
				}
			}
		}
	}
}

// row answers numbers below n, the same ones each time.
func row(state uint64) func(n int) int {
	return func(n int) int {
		state = state*6364136223846793005 + 1442695040888963407
		mixed := (state ^ state>>31) * 0x9E3779B97F4A7C15
		return int(mixed >> 1 % uint64(n))
	}
}

// oneOf is one of these numbers.
func oneOf(next func(n int) int, l ...int) int {
	return l[next(len(l))]
}

// anyParty is mostly one of a few parties.
func anyParty(next func(n int) int) int {
	if next(20) == 0 {
		return oneOf(next, least, -3, -2, -1, 63, 64, 65, 1<<32, most)
	}
	return next(4)
}

// anySlice is mostly one that may be, often a small one.
func anySlice(next func(n int) int) int {
	switch next(6) {
	case 0:
		return oneOf(next, least, -1, 0, 16, 17, 40, most)
	case 1:
		return 1 + next(16)
	}
	return 1 + next(4)
}

// anySet is mostly of a few parties, now and then of nobody, or of all.
func anySet(next func(n int) int) uint64 {
	switch next(12) {
	case 0:
		return 0
	case 1:
		return every
	case 2:
		return uint64(next(most))<<1 | uint64(next(2))
	}
	return uint64(next(1 << 4))
}

// anyUsed is mostly what a slice may have, else what is at an edge.
func anyUsed(next func(n int) int) int {
	if next(3) > 0 {
		return next(18)
	}
	return oneOf(next, least, least+1, -end, -2, -1, end-2, end-1, end, end+1, most-1, most)
}

// step does one of the calls that answer a turn to both.
func step(next func(n int) int, x api.Turn, p plain) (api.Turn, plain) {
	slice, first, waiting := anySlice(next), anyParty(next), anySet(next)
	switch next(10) {
	case 0:
		return turn.End(x, slice), p.end(slice)
	case 1, 2, 3, 4:
		return turn.Next(x, slice, waiting, first), p.next(slice, waiting, first)
	}
	return turn.Spend(x), p.spend()
}

// Behind each step the turn is that which the conditions say, and all is answered of it as they say.
func TestManyRuns(t *testing.T) {
	for seed := range 40 {
		next := row(uint64(seed) + 19)
		p := plain{anyParty(next), anyUsed(next)}
		x := p.turn()
		for i := range 2000 {
			x, p = step(next, x, p)
			if x != p.turn() {
				t.Fatalf("seed %d, step %d: %v; want %v", seed, i, x, p)
			}
			checkAll(t, p, anySlice(next), anyParty(next), anySet(next))
			if t.Failed() {
				t.Fatalf("seed %d, step %d", seed, i)
			}
			if next(40) == 0 {
				p = plain{anyParty(next), anyUsed(next)}
				x = p.turn()
			}
		}
	}
}

// Turns that are drawn, without a row of calls ahead of them.
func TestManyTurns(t *testing.T) {
	next := row(91)
	stays, goes := 0, 0
	for range 60000 {
		p, slice, party, waiting := plain{anyParty(next), anyUsed(next)}, anySlice(next), anyParty(next), anySet(next)
		checkAll(t, p, slice, party, waiting)
		if p.next(slice, waiting, party) == p {
			stays++
		} else {
			goes++
		}
	}
	if stays < 5000 || goes < 5000 {
		t.Errorf("%d turns stay, %d go: too few of one", stays, goes)
	}
}

// The same calls answer the same, whenever they are made.
func TestOneAnswer(t *testing.T) {
	first, second := row(3), row(3)
	x, y := of(0, 0), of(0, 0)
	for range 5000 {
		x, _ = step(first, x, plain{})
		y, _ = step(second, y, plain{})
		if x != y {
			t.Fatalf("%v, then %v", x, y)
		}
	}
}

// A turn that is spent from its beginning on lasts as many ticks as the slice has, and no tick more when it was ended.
func TestWholeTurns(t *testing.T) {
	for _, s := range edges() {
		slice := s[0]
		for ended := range s[1] + 1 {
			x := of(3, 0)
			for used := range ended {
				checkNext(t, x, slice, 1<<3|1<<1, 1, x)
				checkLeft(t, x, slice, s[1]-used)
				x = turn.Spend(x)
			}
			x = turn.End(x, slice)
			checkLeft(t, x, slice, 0)
			checkMay(t, x, slice, 3, false)
			checkNext(t, x, slice, 1<<3|1<<1, 1, of(1, 0))
			// Nobody waits: it stays, though nothing is left of it, and is spent beyond its end.
			checkNext(t, x, slice, 0, 1, of(3, s[1]))
			checkSpend(t, x, of(3, s[1]+1))
		}
	}
}
