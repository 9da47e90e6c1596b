package ledger

// Lift gives a party a V that it would take too many ticks to come to.
func (l *Ledger) Lift(p int, v uint64) {
	l.parties[p].v = v
}
