package ledger_test

import "math"

const (
	lockUnit = 720720
	most     = math.MaxUint64
)

// plain is a ledger as the chapters tell it: lists, with a place for each party.
type plain struct {
	weights     []int
	vs          []uint64
	helds       []int
	actives     []bool
	floor       uint64
	slice, crit int
}

// brought is n, brought to what lies from one to the other.
func brought(n, from, to int) int {
	switch {
	case n < from:
		return from
	case n > to:
		return to
	}
	return n
}

// sum is a and b, added; the greatest number, if that is more.
func sum(a, b uint64) uint64 {
	if b > most-a {
		return most
	}
	return a + b
}

// cost is what a tick costs.
func cost(w int) uint64 {
	return lockUnit / uint64(brought(w, 1, 16))
}

// reachable is v, brought to the floor up to so many ticks above it.
func reachable(v, floor uint64, ticks int, w int) uint64 {
	top := floor
	for range ticks {
		top = sum(top, cost(w))
	}
	switch {
	case v < floor:
		return floor
	case v > top:
		return top
	}
	return v
}

// in is whether the set has i.
func in(set uint64, i int) bool {
	return i >= 0 && i < 64 && set>>i%2 == 1
}

func newPlain(weights []int, slice, crit int) *plain {
	p := &plain{slice: brought(slice, 1, 32), crit: brought(crit, 1, 32)}
	for i, w := range weights {
		if i < 8 {
			p.weights = append(p.weights, brought(w, 1, 16))
		}
	}
	p.vs = make([]uint64, len(p.weights))
	p.helds = make([]int, len(p.weights))
	p.actives = make([]bool, len(p.weights))
	return p
}

// is tells whether there is such a party.
func (p *plain) is(i int) bool {
	for at := range p.weights {
		if at == i {
			return true
		}
	}
	return false
}

func (p *plain) Lift(i int, v uint64) {
	p.vs[i] = v
}

func (p *plain) Charge(i int) bool {
	if !p.is(i) {
		return false
	}
	p.vs[i] = sum(p.vs[i], cost(p.weights[i]))
	p.helds[i]++
	return true
}

func (p *plain) Settle(active uint64) {
	for i := range p.weights {
		if in(active, i) && !p.actives[i] {
			p.vs[i] = reachable(p.vs[i], p.floor, p.slice+p.crit, p.weights[i])
		}
		p.actives[i] = in(active, i)
	}
	least, any := uint64(most), false
	for i, v := range p.vs {
		if p.actives[i] {
			least, any = min(least, v), true
		}
	}
	if any && least > p.floor {
		p.floor = least
	}
}

func (p *plain) Weigh(i, w int) bool {
	if !p.is(i) {
		return false
	}
	if brought(w, 1, 16) == p.weights[i] {
		return true
	}
	p.weights[i] = brought(w, 1, 16)
	p.vs[i] = reachable(p.vs[i], p.floor, p.slice, w)
	return true
}

func (p *plain) Weight(i int) int {
	if !p.is(i) {
		return 0
	}
	return p.weights[i]
}

func (p *plain) Least(among uint64) int {
	for i := range p.weights {
		if in(among, i) && p.isLeast(i, among) {
			return i
		}
	}
	return -1
}

// isLeast tells whether no party in the set has a lesser V than this one.
func (p *plain) isLeast(i int, among uint64) bool {
	for j, v := range p.vs {
		if in(among, j) && v < p.vs[i] {
			return false
		}
	}
	return true
}

func (p *plain) V(i int) uint64 {
	if !p.is(i) {
		return 0
	}
	return p.vs[i]
}

func (p *plain) Held(i int) int {
	if !p.is(i) {
		return 0
	}
	return p.helds[i]
}

func (p *plain) Floor() uint64 {
	return p.floor
}

func (p *plain) Active() uint64 {
	var s uint64
	for i, is := range p.actives {
		if is {
			s += 1 << i
		}
	}
	return s
}

func (p *plain) Len() int {
	return len(p.weights)
}

func (p *plain) Behind(i int, among uint64) int {
	if !p.is(i) {
		return 0
	}
	ticks := 0
	for j, v := range p.vs {
		if in(among, j) && j != i {
			ticks += ticksFrom(v, p.vs[i], cost(p.weights[j]))
		}
	}
	return ticks
}

// ticksFrom is how many ticks of that cost bring v to what is asked for, or above: they are counted one by one, but for a far way most of them at once.
func ticksFrom(v, to, cost uint64) int {
	ticks := 0
	if v < to && (to-v)/cost > 100 {
		far := (to-v)/cost - 50
		v += far * cost
		ticks = int(far)
	}
	for v < to {
		v = sum(v, cost)
		ticks++
	}
	return ticks
}
