package fixq_test

import (
	"math/big"
	"testing"

	"forelock/api"
	"forelock/fixq"
)

// The tests of this file hold each call against whole numbers of any size.

func edges() []uint64 {
	return []uint64{0, 1, 2, 3, root - 1, root, root + 1, half - 1, half, half + 1, most - 1, most}
}

func whole(n uint64) *big.Int {
	return new(big.Int).SetUint64(n)
}

func times(a, b uint64) *big.Int {
	return new(big.Int).Mul(whole(a), whole(b))
}

// limited is what a call answers whose true answer is n.
func limited(n *big.Int) (uint64, api.Errno) {
	switch {
	case n.Sign() < 0:
		return 0, api.ErrOver
	case !n.IsUint64():
		return most, api.ErrOver
	}
	return n.Uint64(), api.OK
}

func checkPair(t *testing.T, a, b uint64) {
	t.Helper()
	for _, c := range []struct {
		name  string
		call  binary
		exact *big.Int
	}{
		{"Add", fixq.Add, new(big.Int).Add(whole(a), whole(b))},
		{"Sub", fixq.Sub, new(big.Int).Sub(whole(a), whole(b))},
		{"Mul", fixq.Mul, times(a, b)},
	} {
		want, fault := limited(c.exact)
		if got, err := c.call(a, b); got != want || err != fault {
			t.Errorf("%s(%d, %d): %d, error %d; want %d, error %d", c.name, a, b, got, err, want, fault)
		}
	}
}

func checkParts(t *testing.T, a, b, c uint64) {
	t.Helper()
	var quotient, rest uint64
	fault, faultMod := api.ErrArg, api.ErrArg
	if c != 0 {
		q, r := new(big.Int).QuoRem(times(a, b), whole(c), new(big.Int))
		quotient, fault = limited(q)
		rest, faultMod = limited(r)
	}
	if got, err := fixq.MulDiv(a, b, c); got != quotient || err != fault {
		t.Errorf("MulDiv(%d, %d, %d): %d, error %d; want %d, error %d", a, b, c, got, err, quotient, fault)
	}
	if got, err := fixq.MulMod(a, b, c); got != rest || err != faultMod {
		t.Errorf("MulMod(%d, %d, %d): %d, error %d; want %d, error %d", a, b, c, got, err, rest, faultMod)
	}
}

func checkCompare(t *testing.T, a, b, c, d uint64) {
	t.Helper()
	want, fault := 0, api.ErrArg
	if b != 0 && d != 0 {
		want, fault = times(a, d).Cmp(times(c, b)), api.OK
	}
	if got, err := fixq.Compare(a, b, c, d); got != want || err != fault {
		t.Errorf("Compare(%d, %d, %d, %d): %d, error %d; want %d, error %d", a, b, c, d, got, err, want, fault)
	}
}

func distance(a, w, t, all uint64) *big.Int {
	d := new(big.Int).Sub(times(a, all), times(w, t))
	return d.Abs(d)
}

func checkNear(t *testing.T, a, w, total, all, k uint64) {
	t.Helper()
	want := distance(a, w, total, all).Cmp(times(k, all)) <= 0
	if got := fixq.Near(a, w, total, all, k); got != want {
		t.Errorf("Near(%d, %d, %d, %d, %d): %v", a, w, total, all, k, got)
	}
}

// checkNearest tries the least k for which the answer is true, and the one below it.
func checkNearest(t *testing.T, a, w, total, all uint64) {
	t.Helper()
	if all == 0 {
		return
	}
	least := distance(a, w, total, all)
	least.Add(least, whole(all-1)).Quo(least, whole(all))
	if !least.IsUint64() {
		checkNear(t, a, w, total, all, most)
		return
	}
	k := least.Uint64()
	if !fixq.Near(a, w, total, all, k) {
		t.Errorf("Near(%d, %d, %d, %d, %d) is false", a, w, total, all, k)
	}
	if k > 0 && fixq.Near(a, w, total, all, k-1) {
		t.Errorf("Near(%d, %d, %d, %d, %d) is true", a, w, total, all, k-1)
	}
}

func TestEdges(t *testing.T) {
	for _, a := range edges() {
		for _, b := range edges() {
			checkPair(t, a, b)
			for _, c := range edges() {
				checkParts(t, a, b, c)
				for _, d := range edges() {
					checkCompare(t, a, b, c, d)
					checkNearest(t, a, b, c, d)
					for _, k := range edges() {
						checkNear(t, a, b, c, d, k)
					}
				}
			}
		}
	}
}

// row answers numbers of all lengths, the same ones each time.
func row() func() uint64 {
	state := uint64(20261118)
	return func() uint64 {
		state = state*6364136223846793005 + 1442695040888963407
		mixed := (state ^ state>>31) * 0x9E3779B97F4A7C15
		return mixed >> (state >> 58)
	}
}

func TestManyNumbers(t *testing.T) {
	next := row()
	for range 20000 {
		a, b, c, d, k := next(), next(), next(), next(), next()
		checkPair(t, a, b)
		checkParts(t, a, b, c)
		checkCompare(t, a, b, c, d)
		checkCompare(t, a, b, a, b)
		checkNear(t, a, b, c, d, k)
		checkNearest(t, a, b, c, d)
	}
}

// Fractions are the same when both parts of one are those of the other, times one number.
func TestSameFractions(t *testing.T) {
	next := row()
	for range 20000 {
		a, b, n := next()%root, next()%root+1, next()%(root-1)+1
		if got, err := fixq.Compare(a, b, a*n, b*n); got != 0 || err != api.OK {
			t.Errorf("%d/%d against the same times %d: %d, error %d", a, b, n, got, err)
		}
		if got, err := fixq.Compare(a, b, a*n+1, b*n); got != -1 || err != api.OK {
			t.Errorf("%d/%d against a greater one: %d, error %d", a, b, got, err)
		}
	}
}
