package idset_test

import (
	"iter"
	"slices"
	"testing"

	"forelock/idset"
)

// reached is what a loop says that is left behind n of its rounds.
func reached(loop iter.Seq[int], n int) []int {
	var l []int
	for i := range loop {
		l = append(l, i)
		if len(l) == n {
			break
		}
	}
	return l
}

func TestAllLeftEarlyAndGoneOverAgain(t *testing.T) {
	for _, l := range [][]int{{0}, {63}, {0, 63}, {31, 32}, {0, 1, 2, 31, 32, 62, 63}, all64()} {
		s := idset.Of(l...)
		loop := idset.All(s)
		for n := 1; n <= len(l); n++ {
			if got := reached(loop, n); !slices.Equal(got, l[:n]) {
				t.Errorf("All(%#x), left behind %d: %v; want %v", s, n, got, l[:n])
			}
			if got := reached(loop, 0); !slices.Equal(got, l) {
				t.Errorf("All(%#x), gone over whole: %v; want %v", s, got, l)
			}
		}
	}
}

func TestAllOfNone(t *testing.T) {
	loop := idset.All(0)
	if loop == nil {
		t.Fatal("All is nil")
	}
	for range 2 {
		for i := range loop {
			t.Errorf("All of none: %d", i)
		}
	}
}

func TestLoopWithinLoop(t *testing.T) {
	loop := idset.All(idset.Of(9, 1, 5))
	var got []int
	for i := range loop {
		for j := range loop {
			got = append(got, 10*i+j)
		}
	}
	if want := []int{11, 15, 19, 51, 55, 59, 91, 95, 99}; !slices.Equal(got, want) {
		t.Errorf("a loop within the same loop: %v; want %v", got, want)
	}
}

// A loop goes over the set that it was asked of, whatever becomes of the variable.
func TestAllKeepsWhatItGoesOver(t *testing.T) {
	s := idset.Of(0, 31, 63)
	loop := idset.All(s)
	for i := range loop {
		s = idset.Without(s, i)
		s = idset.With(s, 40)
	}
	checkNumbers(t, s, 40)
	if got, want := reached(loop, 0), []int{0, 31, 63}; !slices.Equal(got, want) {
		t.Errorf("All, gone over behind changes: %v; want %v", got, want)
	}
}

func TestLoopsAreApart(t *testing.T) {
	a, b := idset.All(0b101), idset.All(0b1010)
	if got, want := reached(b, 1), []int{1}; !slices.Equal(got, want) {
		t.Errorf("the second loop: %v; want %v", got, want)
	}
	if got, want := reached(a, 0), []int{0, 2}; !slices.Equal(got, want) {
		t.Errorf("the first loop: %v; want %v", got, want)
	}
	if got, want := reached(b, 0), []int{1, 3}; !slices.Equal(got, want) {
		t.Errorf("the second loop again: %v; want %v", got, want)
	}
}
