package unit

import "forelock/fixq"

// What Fair and Worst go up to: so many ticks, and so many who have them.
const (
	mostTicks = 1 << 31
	mostParts = 64
)

// part is one's ticks and weight; or those of all, added.
type part struct {
	ticks, weight uint64
}

// Fair answers whether each one has the ticks that its weight says, up to k.
func Fair(ticks, weights []int, k int) bool {
	parts, all, ok := paired(ticks, weights)
	if !ok {
		return false
	}
	most := within(k, 0, mostTicks)
	for _, p := range parts {
		if !fixq.Near(p.ticks, p.weight, all.ticks, all.weight, most) {
			return false
		}
	}
	return true
}

// Worst answers the least k, however great, with which each one has the ticks that its weight says, up to k; -1 if there are too many, or unlike many.
func Worst(ticks, weights []int) int {
	parts, all, ok := paired(ticks, weights)
	if !ok {
		return -1
	}
	worst := uint64(0)
	for _, p := range parts {
		worst = max(worst, apart(p, all))
	}
	return int(worst)
}

// paired answers each one's part, brought to what it may be, and all of them, added; false if there are too many, or unlike many.
func paired(ticks, weights []int) ([]part, part, bool) {
	if len(ticks) != len(weights) || len(ticks) > mostParts {
		return nil, part{}, false
	}
	parts := make([]part, len(ticks))
	var all part
	for i := range parts {
		p := part{within(ticks[i], 0, mostTicks), within(weights[i], 1, mostWeight)}
		all.ticks += p.ticks
		all.weight += p.weight
		parts[i] = p
	}
	return parts, all, true
}

// apart answers how many ticks p is apart from its share, rounded up.
func apart(p, all part) uint64 {
	// Nothing here goes round: with at most 64 parts no product is above 2^49.
	has, share := p.ticks*all.weight, p.weight*all.ticks
	distance := max(has, share) - min(has, share)
	return (distance + all.weight - 1) / all.weight
}
