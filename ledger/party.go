package ledger

import (
	"forelock/fixq"
	"forelock/idset"
	"forelock/unit"
)

// party is one of a ledger: what it weighs, what the ticks that it held come to, and how many these are.
type party struct {
	weight int
	v      uint64
	held   int
}

// hold notes a tick more that the party held.
func (x *party) hold() {
	// Where the sum doesn't fit, it is the greatest number, and stays there.
	x.v, _ = fixq.Add(x.v, unit.Lock(x.weight))
	x.held++
}

// ticksTo answers how many ticks the party would hold till its V is no less than v.
func (x party) ticksTo(v uint64) uint64 {
	if x.v >= v {
		return 0
	}
	// The last tick may go beyond v: all of them but that one come to less than what is missing.
	return (v-x.v-1)/unit.Lock(x.weight) + 1
}

// is answers whether there is such a party.
func (l *Ledger) is(p int) bool {
	return p >= 0 && p < l.Len()
}

// look answers what there is of a party, or zero values, if there is none.
func (l *Ledger) look(p int) party {
	if !l.is(p) {
		return party{}
	}
	return l.parties[p]
}

// ours answers those in the set that are parties.
func (l *Ledger) ours(set uint64) uint64 {
	var s uint64
	for p := range idset.All(set) {
		if l.is(p) {
			s = idset.With(s, p)
		}
	}
	return s
}

// within brings n to 1 up to most.
func within(n, most int) int {
	return min(max(n, 1), most)
}
