package sat

import (
	"math"
	"math/big"
	"testing"

	"murmur/api"
)

const top = api.Top

// numbers are ordinary ones, the bounds and what is beside them, roots of the bounds, and an int's ends.
func numbers() []int {
	l := []int{0, 1, 2, 3, 5, 7, 10, 42, 1000, 1 << 19, 1<<20 - 1, 1 << 20, 1<<20 + 1, 1 << 21, 1 << 30, 1 << 31, 1 << 32, top / 3, top/3 + 1, top / 2, top/2 + 1, top - 2, top - 1, top, top + 1, top + 2, 1 << 41, 1 << 62, math.MaxInt - 1, math.MaxInt}
	for _, n := range l {
		l = append(l, -n)
	}
	return append(l, math.MinInt)
}

// exact is a number as one that has no bounds, clamped by the document's words.
func exact(n int) *big.Int { return cut(big.NewInt(int64(n))) }

func cut(n *big.Int) *big.Int {
	switch hi := big.NewInt(top); {
	case n.Cmp(hi) > 0:
		return hi
	case n.Cmp(new(big.Int).Neg(hi)) < 0:
		return hi.Neg(hi)
	}
	return n
}

// P1.1: Clamp.
func TestClamp(t *testing.T) {
	for _, x := range []struct{ n, want int }{
		{0, 0}, {5, 5}, {-5, -5},
		{top - 1, top - 1}, {top, top}, {top + 1, top}, {math.MaxInt, top},
		{-top + 1, -top + 1}, {-top, -top}, {-top - 1, -top}, {math.MinInt, -top},
	} {
		if got := Clamp(x.n); got != x.want {
			t.Errorf("Clamp(%d) = %d, want %d", x.n, got, x.want)
		}
	}
}

// P1.1: Add, Sub and Mul, by cases written out.
func TestReckon(t *testing.T) {
	for _, x := range []struct {
		name       string
		f          func(a, b int) int
		a, b, want int
	}{
		{"Add", Add, 2, 3, 5}, {"Add", Add, 2, -5, -3},
		{"Add", Add, top, 1, top}, {"Add", Add, top - 1, 1, top}, {"Add", Add, -top, -1, -top},
		{"Add", Add, math.MaxInt, math.MaxInt, top}, {"Add", Add, math.MinInt, math.MinInt, -top},
		{"Add", Add, math.MaxInt, -1, top - 1}, {"Add", Add, math.MaxInt, math.MinInt, 0},
		{"Sub", Sub, 2, 5, -3}, {"Sub", Sub, 5, 2, 3},
		{"Sub", Sub, -top, 1, -top}, {"Sub", Sub, top, -1, top}, {"Sub", Sub, 1, math.MinInt, top},
		{"Sub", Sub, math.MinInt, math.MinInt, 0}, {"Sub", Sub, math.MinInt, -1, -top + 1},
		{"Mul", Mul, -3, 4, -12}, {"Mul", Mul, -3, -4, 12}, {"Mul", Mul, 0, math.MinInt, 0}, {"Mul", Mul, math.MinInt, 0, 0},
		{"Mul", Mul, 1 << 30, -1 << 30, -top}, {"Mul", Mul, 1 << 20, 1 << 20, top}, {"Mul", Mul, 1 << 20, 1<<20 - 1, top - 1<<20},
		{"Mul", Mul, 1 << 32, 1 << 32, top}, {"Mul", Mul, top, top, top}, {"Mul", Mul, -top, -top, top}, {"Mul", Mul, top, -top, -top},
		{"Mul", Mul, math.MinInt, -1, top}, {"Mul", Mul, -1, math.MinInt, top}, {"Mul", Mul, math.MaxInt, math.MinInt, -top},
	} {
		if got := x.f(x.a, x.b); got != x.want {
			t.Errorf("%s(%d, %d) = %d, want %d", x.name, x.a, x.b, got, x.want)
		}
	}
}

// P1.1: Add, Sub and Mul, against numbers that have no bounds.
func TestReckonExact(t *testing.T) {
	for _, x := range []struct {
		name  string
		f     func(a, b int) int
		exact func(z, a, b *big.Int) *big.Int
	}{
		{"Add", Add, (*big.Int).Add}, {"Sub", Sub, (*big.Int).Sub}, {"Mul", Mul, (*big.Int).Mul},
	} {
		for _, a := range numbers() {
			for _, b := range numbers() {
				want := cut(x.exact(new(big.Int), exact(a), exact(b))).Int64()
				if got := x.f(a, b); int64(got) != want {
					t.Errorf("%s(%d, %d) = %d, want %d", x.name, a, b, got, want)
				}
			}
		}
	}
}

// P1.1: CeilDiv, and what it refuses.
func TestCeilDiv(t *testing.T) {
	for _, x := range []struct {
		a, b, want int
		e          api.Errno
	}{
		{7, 2, 4, api.OK}, {6, 2, 3, api.OK}, {1, 2, 1, api.OK}, {0, 5, 0, api.OK},
		{-7, 2, -3, api.OK}, {-6, 2, -3, api.OK}, {-1, 2, 0, api.OK},
		{top, 1, top, api.OK}, {-top, 1, -top, api.OK}, {top, top, 1, api.OK}, {-top, top, -1, api.OK}, {1, top, 1, api.OK}, {top - 1, top, 1, api.OK},
		{math.MaxInt, 1, top, api.OK}, {math.MinInt, 1, -top, api.OK}, {1, math.MaxInt, 1, api.OK},
		{math.MaxInt, math.MaxInt, 1, api.OK}, {math.MinInt, math.MaxInt, -1, api.OK}, {top, top + 1, 1, api.OK}, {top + 1, top, 1, api.OK},
		{1, 0, 0, api.ErrArg}, {0, 0, 0, api.ErrArg}, {1, -1, 0, api.ErrArg}, {math.MinInt, -1, 0, api.ErrArg}, {top, -top, 0, api.ErrArg}, {7, math.MinInt, 0, api.ErrArg},
	} {
		if got, e := CeilDiv(x.a, x.b); got != x.want || e != x.e {
			t.Errorf("CeilDiv(%d, %d) = %d, %d, want %d, %d", x.a, x.b, got, e, x.want, x.e)
		}
	}
}

// P1.1: Within, whose answers no bounds hold, and which asks hi first.
func TestWithin(t *testing.T) {
	for _, x := range []struct{ n, lo, hi, want int }{
		{5, 1, 3, 3}, {0, 1, 3, 1}, {2, 1, 3, 2}, {1, 1, 3, 1}, {3, 1, 3, 3}, {7, 7, 7, 7},
		{2, 3, 1, 1}, {0, 3, 1, 3}, {1, 3, 1, 3}, {9, 3, 1, 1},
		{math.MaxInt, math.MinInt, math.MaxInt, math.MaxInt}, {math.MinInt, math.MinInt, math.MaxInt, math.MinInt},
		{top + 2, 0, top + 1, top + 1}, {-top - 2, -top - 1, 0, -top - 1}, {top + 1, 0, math.MaxInt, top + 1},
	} {
		if got := Within(x.n, x.lo, x.hi); got != x.want {
			t.Errorf("Within(%d, %d, %d) = %d, want %d", x.n, x.lo, x.hi, got, x.want)
		}
	}
}

// P1.2: no answer is beyond Top, whatever is given.
func TestBounds(t *testing.T) {
	for _, a := range numbers() {
		for _, b := range numbers() {
			q, _ := CeilDiv(a, b)
			for i, got := range []int{Clamp(a), Add(a, b), Sub(a, b), Mul(a, b), q} {
				if got < -top || got > top {
					t.Errorf("answer %d of %d and %d is beyond the bounds: %d", i, a, b, got)
				}
			}
		}
	}
}

// P1.2: adding more never makes less.
func TestMoreIsNotLess(t *testing.T) {
	for _, a := range numbers() {
		for _, b := range numbers() {
			for _, c := range numbers() {
				if b <= c && Add(a, b) > Add(a, c) {
					t.Errorf("Add(%d, %d) is above Add(%d, %d)", a, b, a, c)
				}
			}
			if b >= 0 && Add(a, b) < Clamp(a) {
				t.Errorf("Add(%d, %d) is below the first of them", a, b)
			}
		}
	}
}

// P1.2: b times CeilDiv of a is a or more, and less than a and b together.
func TestCeilDivIsLeast(t *testing.T) {
	for _, a := range numbers() {
		for _, b := range numbers() {
			q, e := CeilDiv(a, b)
			if b <= 0 {
				if q != 0 || e != api.ErrArg {
					t.Errorf("CeilDiv(%d, %d) = %d, %d, want 0, ErrArg", a, b, q, e)
				}
				continue
			}
			back := new(big.Int).Mul(exact(b), big.NewInt(int64(q)))
			if e != api.OK || back.Cmp(exact(a)) < 0 || back.Cmp(new(big.Int).Add(exact(a), exact(b))) >= 0 {
				t.Errorf("CeilDiv(%d, %d) = %d, %d", a, b, q, e)
			}
		}
	}
}
