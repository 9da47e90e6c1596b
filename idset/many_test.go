package idset_test

import (
	"testing"

	"forelock/idset"
)

// plain is a set as the chapter tells it, with no thought of bits: whether each number is in it.
type plain [64]bool

func (p *plain) has(i int) bool {
	return i >= 0 && i < len(p) && p[i]
}

func (p *plain) put(i int, in bool) {
	if i >= 0 && i < len(p) {
		p[i] = in
	}
}

func (p *plain) list() []int {
	var l []int
	for i, in := range p {
		if in {
			l = append(l, i)
		}
	}
	return l
}

func (p *plain) within(other *plain) bool {
	for i, in := range p {
		if in && !other[i] {
			return false
		}
	}
	return true
}

// row answers numbers below n, the same ones each time.
func row(seed uint64) func(n int) int {
	state := seed
	return func(n int) int {
		state = state*6364136223846793005 + 1442695040888963407
		return int((state ^ state>>29) >> 33 % uint64(n))
	}
}

func TestManyRuns(t *testing.T) {
	// Of ten numbers so many are put in, the others taken out: sets that are nearly full, and nearly of none.
	for _, in := range []int{1, 3, 5, 7, 9} {
		next := row(uint64(in) + 20261118)
		var s uint64
		var p plain
		for step := range 3000 {
			i := next(70) - 3
			checkHas(t, s, i, p.has(i))
			if next(10) < in {
				s = idset.With(s, i)
				p.put(i, true)
			} else {
				s = idset.Without(s, i)
				p.put(i, false)
			}
			checkNumbers(t, s, p.list()...)
			if t.Failed() {
				t.Fatalf("%d of ten put in, step %d: %d", in, step, i)
			}
		}
	}
}

func TestOfManyLists(t *testing.T) {
	next := row(6)
	for range 3000 {
		var p plain
		l := make([]int, next(100))
		for k := range l {
			l[k] = next(90) - 13
			p.put(l[k], true)
		}
		checkNumbers(t, idset.Of(l...), p.list()...)
		if t.Failed() {
			t.Fatalf("Of(%v)", l)
		}
	}
}

func TestWithinOfManySets(t *testing.T) {
	next := row(66)
	seen := map[bool]int{}
	for range 3000 {
		var a, b plain
		for i := range a {
			// The first is mostly a part of the second, so that both answers come about.
			b.put(i, next(3) > 0)
			a.put(i, b.has(i) && next(2) == 0 || next(100) == 0)
		}
		want := a.within(&b)
		seen[want]++
		checkWithin(t, idset.Of(a.list()...), idset.Of(b.list()...), want)
	}
	if seen[true] < 300 || seen[false] < 300 {
		t.Errorf("too few of one answer: %v", seen)
	}
}
