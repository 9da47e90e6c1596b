package fixq_test

import (
	"testing"

	"forelock/api"
	"forelock/fixq"
)

const (
	most = 1<<64 - 1
	half = 1 << 63
	root = 1 << 32
)

type binary func(a, b uint64) (uint64, api.Errno)

type binaryCase struct {
	a, b, want uint64
	err        api.Errno
}

func checkBinary(t *testing.T, call binary, cases []binaryCase) {
	t.Helper()
	for _, c := range cases {
		if got, err := call(c.a, c.b); got != c.want || err != c.err {
			t.Errorf("of %d and %d: %d, error %d; want %d, error %d", c.a, c.b, got, err, c.want, c.err)
		}
	}
}

func TestAdd(t *testing.T) {
	checkBinary(t, fixq.Add, []binaryCase{
		{0, 0, 0, api.OK},
		{2, 3, 5, api.OK},
		{root, root, 2 * root, api.OK},
		{most, 0, most, api.OK},
		{0, most, most, api.OK},
		{most - 1, 1, most, api.OK},
		{half, half - 1, most, api.OK},
		{half, half, most, api.ErrOver},
		{most, 1, most, api.ErrOver},
		{1, most, most, api.ErrOver},
		{most, most, most, api.ErrOver},
	})
}

func TestSub(t *testing.T) {
	checkBinary(t, fixq.Sub, []binaryCase{
		{0, 0, 0, api.OK},
		{5, 3, 2, api.OK},
		{most, 0, most, api.OK},
		{most, most, 0, api.OK},
		{half, half - 1, 1, api.OK},
		{half - 1, half, 0, api.ErrOver},
		{0, 1, 0, api.ErrOver},
		{0, most, 0, api.ErrOver},
		{most - 1, most, 0, api.ErrOver},
	})
}

func TestMul(t *testing.T) {
	checkBinary(t, fixq.Mul, []binaryCase{
		{0, 0, 0, api.OK},
		{2, 3, 6, api.OK},
		{most, 0, 0, api.OK},
		{0, most, 0, api.OK},
		{most, 1, most, api.OK},
		{1, most, most, api.OK},
		{root - 1, root + 1, most, api.OK},
		{root, root - 1, most - root + 1, api.OK},
		{half, 1, half, api.OK},
		{root, root, most, api.ErrOver},
		{half, 2, most, api.ErrOver},
		{half, half, most, api.ErrOver},
		{most, 2, most, api.ErrOver},
		{most, most, most, api.ErrOver},
	})
}

type ternary func(a, b, c uint64) (uint64, api.Errno)

type ternaryCase struct {
	a, b, c, want uint64
	err           api.Errno
}

func checkTernary(t *testing.T, call ternary, cases []ternaryCase) {
	t.Helper()
	for _, c := range cases {
		if got, err := call(c.a, c.b, c.c); got != c.want || err != c.err {
			t.Errorf("of %d, %d and %d: %d, error %d; want %d, error %d", c.a, c.b, c.c, got, err, c.want, c.err)
		}
	}
}

func TestMulDiv(t *testing.T) {
	checkTernary(t, fixq.MulDiv, []ternaryCase{
		{7, 5, 4, 8, api.OK},
		{0, 9, 7, 0, api.OK},
		{2, 3, 7, 0, api.OK},
		{half, 6, 4, half + half/2, api.OK},
		{most, most, most, most, api.OK},
		{most, 1, 1, most, api.OK},
		{root, root, 2, half, api.OK},
		{half, half, half + 1, half - 1, api.OK},
		{root, root, 1, most, api.ErrOver},
		{most, 2, 1, most, api.ErrOver},
		{most, 2, 2, most, api.OK},
		{most, most, most - 1, most, api.ErrOver},
		{half, 4, 2, most, api.ErrOver},
		{half, 4, 3, 12297829382473034410, api.OK},
		{1, 1, 0, 0, api.ErrArg},
		{0, 0, 0, 0, api.ErrArg},
		{most, most, 0, 0, api.ErrArg},
	})
}

func TestMulMod(t *testing.T) {
	checkTernary(t, fixq.MulMod, []ternaryCase{
		{7, 5, 4, 3, api.OK},
		{0, 9, 7, 0, api.OK},
		{2, 3, 7, 6, api.OK},
		{half, 6, 4, 0, api.OK},
		{most, most, 1, 0, api.OK},
		{most, most, most, 0, api.OK},
		{most, most, most - 1, 1, api.OK},
		{most, most, half, 1, api.OK},
		{root, root, 3, 1, api.OK},
		{half, half, 7, 1, api.OK},
		{1, 1, 0, 0, api.ErrArg},
		{0, 0, 0, 0, api.ErrArg},
		{most, most, 0, 0, api.ErrArg},
	})
}

func TestCompare(t *testing.T) {
	for _, c := range []struct {
		a, b, c, d uint64
		want       int
		err        api.Errno
	}{
		{1, 3, 1, 2, -1, api.OK},
		{1, 2, 1, 3, 1, api.OK},
		{1, 2, 2, 4, 0, api.OK},
		{0, 1, 0, 9, 0, api.OK},
		{0, most, 1, most, -1, api.OK},
		{root, half, 1, half / root, 0, api.OK},
		{most, most, half, half, 0, api.OK},
		{most, most - 1, most - 1, most, 1, api.OK},
		{most - 1, most, most, most - 1, -1, api.OK},
		{most - 2, most - 1, most - 1, most, -1, api.OK},
		{most - 1, most, most - 2, most - 1, 1, api.OK},
		{root, 1, 1, root, 1, api.OK},
		{1, 0, 1, 1, 0, api.ErrArg},
		{1, 1, 1, 0, 0, api.ErrArg},
		{2, 0, 1, 0, 0, api.ErrArg},
		{0, 0, 1, 1, 0, api.ErrArg},
	} {
		if got, err := fixq.Compare(c.a, c.b, c.c, c.d); got != c.want || err != c.err {
			t.Errorf("%d/%d against %d/%d: %d, error %d; want %d, error %d", c.a, c.b, c.c, c.d, got, err, c.want, c.err)
		}
	}
}

func TestNear(t *testing.T) {
	for _, c := range []struct {
		a, w, t, all, k uint64
		want            bool
	}{
		{0, 0, 0, 0, 0, true},
		{5, 1, 10, 2, 0, true},
		{5, 1, 11, 2, 1, true},
		{5, 1, 11, 2, 0, false},
		{9, 1, 10, 2, 4, true},
		{9, 1, 10, 2, 3, false},
		{1, 1, 10, 2, 4, true},
		{1, 1, 10, 2, 3, false},
		{9, 3, 7, 0, most, false},
		{9, 3, 0, 0, 0, true},
		{root, root, 1, 1, 0, true},
		{root, root, root + 1, root, 1, true},
		{root, root, root + 1, root, 0, false},
		{most, 0, 5, most, most, true},
		{most, 0, 5, most, most - 1, false},
		{0, most, most, most, most, true},
		{0, most, most, most, most - 1, false},
		{0, most, most, most - 1, most, false},
		{half, half, 1, 1, 0, true},
		{half + 1, half, 1, 1, 0, false},
		// w*t and k*all added have 129 bits here.
		{most - 1, most, most, most, 1, true},
		{most - 1, most, most, most, most, true},
		{most, most - 1, most, most, 0, false},
		{most, most - 1, most, most, 1, true},
	} {
		if got := fixq.Near(c.a, c.w, c.t, c.all, c.k); got != c.want {
			t.Errorf("is %d*%d apart from %d*%d by at most %d*%d: %v", c.a, c.all, c.w, c.t, c.k, c.all, got)
		}
	}
}
