package turn_test

import (
	"math"
	"testing"

	"forelock/api"
	"forelock/idset"
	"forelock/turn"
)

const (
	least = math.MinInt
	most  = math.MaxInt
	every = uint64(math.MaxUint64)
	end   = 1 << 31
)

// of is a party's turn, of which so many ticks are used.
func of(party, used int) api.Turn {
	return api.Turn{Party: party, Used: used}
}

// checkKept holds what was handed in against what it was ahead of the call.
func checkKept(t *testing.T, call string, given, was api.Turn) {
	t.Helper()
	if given != was {
		t.Errorf("%s has changed %v to %v", call, was, given)
	}
}

func checkNext(t *testing.T, given api.Turn, slice int, waiting uint64, first int, want api.Turn) {
	t.Helper()
	was := given
	for range 2 {
		if got := turn.Next(given, slice, waiting, first); got != want {
			t.Errorf("Next(%v, %d, %#x, %d): %v; want %v", was, slice, waiting, first, got, want)
		}
	}
	checkKept(t, "Next", given, was)
}

func checkMay(t *testing.T, given api.Turn, slice, party int, want bool) {
	t.Helper()
	was := given
	for range 2 {
		if got := turn.May(given, slice, party); got != want {
			t.Errorf("May(%v, %d, %d): %t; want %t", was, slice, party, got, want)
		}
	}
	checkKept(t, "May", given, was)
}

func checkSpend(t *testing.T, given, want api.Turn) {
	t.Helper()
	was := given
	for range 2 {
		if got := turn.Spend(given); got != want {
			t.Errorf("Spend(%v): %v; want %v", was, got, want)
		}
	}
	checkKept(t, "Spend", given, was)
}

func checkEnd(t *testing.T, given api.Turn, slice int, want api.Turn) {
	t.Helper()
	was := given
	for range 2 {
		if got := turn.End(given, slice); got != want {
			t.Errorf("End(%v, %d): %v; want %v", was, slice, got, want)
		}
	}
	checkKept(t, "End", given, was)
}

func checkLeft(t *testing.T, given api.Turn, slice, want int) {
	t.Helper()
	was := given
	for range 2 {
		if got := turn.Left(given, slice); got != want {
			t.Errorf("Left(%v, %d): %d; want %d", was, slice, got, want)
		}
	}
	checkKept(t, "Left", given, was)
}

// Party 1's turn, 2 of 3 ticks used, 1 waits: it stays.
func TestExample(t *testing.T) {
	for _, waiting := range []uint64{idset.Of(1), idset.Of(0, 1, 2), every} {
		for _, first := range []int{-1, 0, 1, 2} {
			checkNext(t, of(1, 2), 3, waiting, first, of(1, 2))
		}
	}
}

// edges are numbers that may be handed in as a slice, and how many ticks one has by each.
func edges() [][2]int {
	return [][2]int{
		{least, 1}, {least + 1, 1}, {-1 << 32, 1}, {-16, 1}, {-1, 1}, {0, 1}, {1, 1}, {2, 2}, {3, 3}, {7, 7},
		{15, 15}, {16, 16}, {17, 16}, {32, 16}, {99, 16}, {1 << 32, 16}, {1<<32 + 1, 16}, {most - 1, 16}, {most, 16},
	}
}

// Each call with each slice: none, one less than it has, just as many, and one more are used.
func TestSlices(t *testing.T) {
	for _, s := range edges() {
		slice, has := s[0], s[1]
		checkMay(t, of(2, 0), slice, 2, true)
		checkMay(t, of(2, has-1), slice, 2, true)
		checkMay(t, of(2, has), slice, 2, false)
		checkMay(t, of(2, has+1), slice, 2, false)
		checkNext(t, of(2, 0), slice, idset.Of(2), 3, of(2, 0))
		checkNext(t, of(2, has-1), slice, idset.Of(2), 3, of(2, has-1))
		checkNext(t, of(2, has), slice, idset.Of(2), 3, of(3, 0))
		checkNext(t, of(2, has+1), slice, idset.Of(2), 3, of(3, 0))
		checkEnd(t, of(2, 0), slice, of(2, has))
		checkEnd(t, of(2, has-1), slice, of(2, has))
		checkEnd(t, of(2, has), slice, of(2, has))
		checkEnd(t, of(2, has+1), slice, of(2, has+1))
		checkLeft(t, of(2, 0), slice, has)
		checkLeft(t, of(2, has-1), slice, 1)
		checkLeft(t, of(2, has), slice, 0)
		checkLeft(t, of(2, has+1), slice, 0)
		// Fewer than none, and as many as a number can be.
		for _, used := range []int{least, least + 1, -1 << 32, -17, -1} {
			checkMay(t, of(2, used), slice, 2, true)
			checkNext(t, of(2, used), slice, idset.Of(2), 3, of(2, used))
			checkEnd(t, of(2, used), slice, of(2, has))
			checkLeft(t, of(2, used), slice, has)
		}
		for _, used := range []int{17, 1 << 31, 1 << 32, most - 1, most} {
			checkMay(t, of(2, used), slice, 2, false)
			checkNext(t, of(2, used), slice, idset.Of(2), 3, of(3, 0))
			checkEnd(t, of(2, used), slice, of(2, used))
			checkLeft(t, of(2, used), slice, 0)
		}
	}
}

func TestMay(t *testing.T) {
	// The turn's own party, from 0 on, also one that can't be in a set.
	for _, party := range []int{0, 1, 7, 63, 64, 1 << 32, most - 1, most} {
		checkMay(t, of(party, 2), 3, party, true)
		checkMay(t, of(party, 3), 3, party, false)
		checkMay(t, of(party, -1), 3, party, true)
		// Another one's.
		for _, other := range []int{least, -1, 2, 62, 65, most - 2} {
			checkMay(t, of(party, 0), 3, other, false)
			checkMay(t, of(other, 0), 3, party, false)
		}
	}
	checkMay(t, of(1, 0), 3, 0, false)
	checkMay(t, of(1, 0), 3, 1<<32+1, false)
	checkMay(t, of(0, 0), 3, -1, false)
	// Below 0 there is no party, though the turn is just that one's.
	for _, party := range []int{-1, -2, -3, -64, -1 << 32, least + 1, least} {
		for _, used := range []int{least, -1, 0, 2, 3, most} {
			checkMay(t, of(party, used), 3, party, false)
			checkMay(t, of(party, used), 3, 0, false)
		}
	}
}

// While nobody waits all turns stay, whosever they are, and however much of them is used.
func TestNextWithNobodyWaiting(t *testing.T) {
	for _, party := range []int{least, -2, -1, 0, 1, 63, 64, most} {
		for _, used := range []int{least, -1, 0, 2, 3, 4, end, most} {
			for _, first := range []int{least, -1, 0, party, 5, most} {
				checkNext(t, of(party, used), 3, 0, first, of(party, used))
			}
		}
	}
}

// firsts are numbers that may be handed in as the least party.
func firsts() []int {
	return []int{least, least + 1, -2, -1, 0, 1, 2, 5, 63, 64, 1 << 32, most}
}

func TestNextWithItsPartyWaiting(t *testing.T) {
	for _, party := range []int{0, 1, 5, 31, 32, 62, 63} {
		for _, waiting := range []uint64{idset.Of(party), idset.Of(party, 3, 40), every} {
			for _, first := range append(firsts(), party) {
				for _, used := range []int{least, -1, 0, 1, 2} {
					checkNext(t, of(party, used), 3, waiting, first, of(party, used))
				}
				// None is left: another turn begins, which may be the same party's.
				for _, used := range []int{3, 4, end, most} {
					checkNext(t, of(party, used), 3, waiting, first, of(first, 0))
				}
			}
		}
	}
}

func TestNextWithItsPartyNotWaiting(t *testing.T) {
	for _, party := range []int{0, 1, 5, 31, 32, 62, 63} {
		for _, waiting := range []uint64{idset.Of(30), idset.Of(2, 33), every - idset.Of(party)} {
			for _, used := range []int{least, -1, 0, 2, 3, most} {
				for _, first := range append(firsts(), party) {
					checkNext(t, of(party, used), 3, waiting, first, of(first, 0))
				}
			}
		}
	}
}

// One who can't be in a set doesn't wait, not in that of all either.
func TestNextOfWhoCannotWait(t *testing.T) {
	for _, party := range []int{least, least + 1, -64, -2, -1, 64, 65, 127, 1 << 32, most - 63, most} {
		for _, waiting := range []uint64{idset.Of(0), idset.Of(63), idset.Of(1, 62), every} {
			for _, used := range []int{least, -1, 0, 2, 3, most} {
				for _, first := range append(firsts(), party) {
					checkNext(t, of(party, used), 3, waiting, first, of(first, 0))
				}
			}
		}
	}
}

// The least one has the turn, whether it waits or not: that isn't asked.
func TestNextOfLeast(t *testing.T) {
	for i := range 64 {
		for j := range 64 {
			want := of(j, 0)
			if i == 5 {
				want = of(5, 1)
			}
			checkNext(t, of(5, 1), 2, idset.Of(i), j, want)
			checkNext(t, of(5, 2), 2, idset.Of(i), j, of(j, 0))
		}
	}
}

func TestSpend(t *testing.T) {
	for _, party := range []int{least, -2, -1, 0, 1, 63, 64, most} {
		for _, c := range [][2]int{
			{0, 1}, {1, 2}, {2, 3}, {15, 16}, {16, 17}, {17, 18}, {1000, 1001},
			{-1, 0}, {-2, -1}, {-9, -8}, {-end, -end + 1}, {-end - 1, -end}, {least, least + 1}, {least + 1, least + 2},
			{end - 3, end - 2}, {end - 2, end - 1}, {end - 1, end},
			// From there on no tick more is.
			{end, end}, {end + 1, end + 1}, {2 * end, 2 * end}, {1 << 62, 1 << 62}, {most - 1, most - 1}, {most, most},
		} {
			checkSpend(t, of(party, c[0]), of(party, c[1]))
		}
	}
}

func TestEnd(t *testing.T) {
	for _, party := range []int{least, -2, -1, 0, 1, 63, 64, most} {
		for _, c := range [][3]int{
			{0, 3, 3}, {1, 3, 3}, {2, 3, 3}, {3, 3, 3}, {4, 3, 4}, {5, 3, 5}, {end, 3, end}, {most, 3, most},
			{-1, 3, 3}, {-17, 3, 3}, {least, 3, 3}, {least, 16, 16}, {15, 16, 16}, {16, 16, 16}, {17, 16, 17}, {16, 99, 16}, {20, 99, 20},
			{0, 0, 1}, {0, -7, 1}, {1, -7, 1}, {2, -7, 2}, {0, least, 1}, {0, most, 16}, {most, most, most}, {least, least, 1},
		} {
			checkEnd(t, of(party, c[0]), c[1], of(party, c[2]))
		}
	}
}

func TestLeft(t *testing.T) {
	for _, party := range []int{least, -2, -1, 0, 1, 63, 64, most} {
		for _, c := range [][3]int{
			{0, 3, 3}, {1, 3, 2}, {2, 3, 1}, {3, 3, 0}, {4, 3, 0}, {end, 3, 0}, {most, 3, 0},
			{-1, 3, 3}, {-17, 3, 3}, {least, 3, 3}, {least + 3, 3, 3}, {least, 16, 16}, {0, 16, 16}, {1, 16, 15}, {15, 16, 1}, {16, 16, 0}, {17, 16, 0},
			{0, 99, 16}, {5, 99, 11}, {20, 99, 0}, {0, 0, 1}, {1, 0, 0}, {0, -7, 1}, {-7, -7, 1}, {1, -7, 0},
			{0, most, 16}, {most, most, 0}, {least, most, 16}, {0, least, 1}, {least, least, 1}, {most, least, 0},
		} {
			checkLeft(t, of(party, c[0]), c[1], c[2])
		}
	}
}
