package fix

import (
	"math"
	"math/big"
	"testing"

	"tympan/api"
)

const one, most, half = api.One, api.MaxFix, api.One / 2

// mixed returns n integers of all sizes and both signs, from -bound to bound, the same ones for the same seed.
func mixed(seed uint64, n, bound int) []int {
	var l []int
	for i := range n {
		seed = seed*6364136223846793005 + 1442695040888963407
		word := seed ^ seed>>29
		l = append(l, int(word)>>(i*7%64)%(bound+1))
	}
	return l
}

// edges returns fixes next to 0, to multiples of a half, and to the bounds, some of them just beyond.
func edges() []int {
	var l []int
	for _, at := range []int{0, half, one, one + half, 2 * one, 3*one - half, 1 << 20, most / 2, most - one, most} {
		for step := -2; step <= 2; step++ {
			l = append(l, at+step, -at+step)
		}
	}
	return l
}

func invalid() []int {
	return []int{most + 1, -most - 1, most + one, -most - one, 1 << 47, -1 << 47, 1 << 62, -1 << 62, math.MaxInt, math.MaxInt - 1, math.MinInt, math.MinInt + 1}
}

func inRange(a int) bool { return a >= -most && a <= most }

// nearest returns a / b rounded, a tie to even; b is not 0.
func nearest(a, b *big.Int) int {
	double := new(big.Int).Mul(a, big.NewInt(2))
	double.Add(double, b)
	low := floorOf(double, new(big.Int).Mul(b, big.NewInt(2)))
	twice := new(big.Int).Mul(a, big.NewInt(2))
	tie := new(big.Int).Mul(big.NewInt(int64(2*low-1)), b)
	if twice.Cmp(tie) == 0 && low%2 != 0 {
		low--
	}
	return low
}

// floorOf returns a / b rounded down; b is not 0.
func floorOf(a, b *big.Int) int {
	q, m := new(big.Int).DivMod(a, b, new(big.Int))
	// DivMod rounds so that the rest is not negative, which is up if b is negative.
	if b.Sign() < 0 && m.Sign() != 0 {
		q.Sub(q, big.NewInt(1))
	}
	return int(q.Int64())
}

func whole(a int) *big.Int { return big.NewInt(int64(a)) }

func times(a, b int) *big.Int { return new(big.Int).Mul(whole(a), whole(b)) }

type operation struct {
	name string
	call func(a, b int) (int, bool)
	want func(a, b int) (int, bool)
}

// operations lists the calls of two fixes, each with what it returns for valid ones before the result is held against the range.
func operations() []operation {
	return []operation{
		{"Add", Add, func(a, b int) (int, bool) { return a + b, true }},
		{"Sub", Sub, func(a, b int) (int, bool) { return a - b, true }},
		{"Mul", Mul, func(a, b int) (int, bool) { return nearest(times(a, b), whole(one)), true }},
		{"Div", Div, func(a, b int) (int, bool) {
			if b == 0 {
				return 0, false
			}
			return nearest(times(a, one), whole(b)), true
		}},
	}
}

func checkPair(t *testing.T, o operation, a, b int) {
	t.Helper()
	want, ok := 0, false
	if inRange(a) && inRange(b) {
		want, ok = o.want(a, b)
		if !inRange(want) {
			want, ok = 0, false
		}
	}
	if c, good := o.call(a, b); c != want || good != ok {
		t.Errorf("%s(%d, %d) = %d, %v; want %d, %v", o.name, a, b, c, good, want, ok)
	}
}

// P3.1
func TestFromRows(t *testing.T) {
	for _, c := range []struct {
		v, want int
		ok      bool
	}{
		{0, 0, true}, {1, 65536, true}, {2, 131072, true}, {-1, -65536, true}, {-2, -131072, true}, {1000, 65536000, true},
		{16382, 16382 * 65536, true}, {16383, 16383 * 65536, true}, {-16383, -16383 * 65536, true},
		{16384, 0, false}, {-16384, 0, false}, {16385, 0, false}, {-16385, 0, false},
		{1 << 30, 0, false}, {1 << 47, 0, false}, {-1 << 47, 0, false}, {1 << 48, 0, false}, {-1 << 48, 0, false}, {1<<48 + 1, 0, false},
		{math.MaxInt, 0, false}, {math.MinInt, 0, false},
	} {
		if a, ok := From(c.v); a != c.want || ok != c.ok {
			t.Errorf("From(%d) = %d, %v; want %d, %v", c.v, a, ok, c.want, c.ok)
		}
	}
}

// P3.1
func TestPairRows(t *testing.T) {
	add, sub, mul, div := Add, Sub, Mul, Div
	for i, c := range []struct {
		call       func(a, b int) (int, bool)
		a, b, want int
		ok         bool
	}{
		{add, 3, 4, 7, true}, {add, 3, -4, -1, true}, {add, most, -most, 0, true}, {add, most - 1, 1, most, true}, {add, most, 1, 0, false},
		{add, -most, -1, 0, false}, {add, 1 - most, -1, -most, true}, {add, most, most, 0, false}, {add, -most, -most, 0, false},
		{sub, 3, 4, -1, true}, {sub, 3, -4, 7, true}, {sub, most, most, 0, true}, {sub, most, -1, 0, false}, {sub, -most, 1, 0, false},
		{sub, 1 - most, 1, -most, true}, {sub, most - 1, -1, most, true}, {sub, most, -most, 0, false}, {sub, -most, most, 0, false},
		// Ties, with either sign: a half goes to 0, one and a half to 2, two and a half to 2.
		{mul, 1, half, 0, true}, {mul, 3, half, 2, true}, {mul, 5, half, 2, true}, {mul, 7, half, 4, true},
		{mul, -1, half, 0, true}, {mul, -3, half, -2, true}, {mul, 5, -half, -2, true}, {mul, -7, -half, 4, true},
		{mul, 1, half + 1, 1, true}, {mul, 1, half - 1, 0, true}, {mul, -1, half + 1, -1, true}, {mul, 3, half - 1, 1, true},
		{mul, one, one, one, true}, {mul, most, one, most, true}, {mul, -most, one, -most, true}, {mul, most, 0, 0, true}, {mul, 0, 0, 0, true},
		{mul, 128 * one, 128 * one, 0, false}, {mul, 128*one - 1, 128 * one, 16384*one - 128, true}, {mul, -128 * one, 128 * one, 0, false},
		{mul, most, most, 0, false}, {mul, most, -most, 0, false}, {mul, most, one + 1, 0, false}, {mul, most, -one - 1, 0, false},
		{mul, 1, most, 16384, true},
		{div, one, 2 * one, half, true}, {div, 1, 2 * one, 0, true}, {div, 3, 2 * one, 2, true}, {div, 5, 2 * one, 2, true}, {div, 7, 2 * one, 4, true},
		{div, -1, 2 * one, 0, true}, {div, 3, -2 * one, -2, true}, {div, -5, 2 * one, -2, true}, {div, -7, -2 * one, 4, true},
		{div, 2 * one, 3 * one, 43691, true}, {div, one, 3 * one, 21845, true}, {div, 2 * one, -3 * one, -43691, true}, {div, -one, 3 * one, -21845, true},
		{div, most, one, most, true}, {div, most, -one, -most, true}, {div, most, one - 1, 0, false}, {div, -most, one - 1, 0, false},
		{div, most, most, one, true}, {div, most, -most, -one, true}, {div, 1, most, 0, true},
		{div, 16383, 1, 16383 * one, true}, {div, 16384, 1, 0, false}, {div, -16384, 1, 0, false}, {div, most, 1, 0, false},
		{div, 0, 1, 0, true}, {div, 0, 0, 0, false}, {div, 1, 0, 0, false}, {div, -most, 0, 0, false},
	} {
		if v, ok := c.call(c.a, c.b); v != c.want || ok != c.ok {
			t.Errorf("row %d: %d, %d: %d, %v; want %d, %v", i, c.a, c.b, v, ok, c.want, c.ok)
		}
	}
}

// P3.1
func TestInvalidPairs(t *testing.T) {
	for _, o := range operations() {
		for _, bad := range invalid() {
			for _, other := range append(invalid(), 0, 1, -1, -5, one, -one, most, -most) {
				for _, p := range [][2]int{{bad, other}, {other, bad}} {
					if c, ok := o.call(p[0], p[1]); c != 0 || ok {
						t.Errorf("%s(%d, %d) = %d, %v; want 0, false", o.name, p[0], p[1], c, ok)
					}
				}
			}
		}
	}
}

// P3.1, P3.4: the result is the exact one rounded once, and refused only if it is beyond the range.
func TestPairsAreExact(t *testing.T) {
	left, right := mixed(1, 20000, most), mixed(2, 20000, most)
	for _, o := range operations() {
		for _, a := range edges() {
			for _, b := range edges() {
				checkPair(t, o, a, b)
			}
		}
		for i, a := range left {
			checkPair(t, o, a, right[(i*3+5)%len(right)])
		}
	}
}

// P3.1, P3.4: quotients and products of small fixes, where ties are frequent.
func TestSmallPairsAreExact(t *testing.T) {
	for _, o := range operations() {
		for a := -40; a <= 40; a++ {
			for b := -40; b <= 40; b++ {
				checkPair(t, o, a, b)
				checkPair(t, o, a, b*half)
				checkPair(t, o, a*half, b)
				checkPair(t, o, a*half/8, b*half/4)
			}
		}
	}
}

// P3.2
func TestIntegerRows(t *testing.T) {
	const top = 1 << 30
	for _, c := range []struct{ a, floor, ceil, round, trunc, whole int }{
		{0, 0, 0, 0, 0, 0}, {1, 0, one, 0, 0, 0}, {-1, -one, 0, 0, 0, -1},
		{half - 1, 0, one, 0, 0, 0}, {half, 0, one, 0, 0, 0}, {half + 1, 0, one, one, 0, 0},
		{-half + 1, -one, 0, 0, 0, -1}, {-half, -one, 0, 0, 0, -1}, {-half - 1, -one, 0, -one, 0, -1},
		{one - 1, 0, one, one, 0, 0}, {one, one, one, one, one, 1}, {one + 1, one, 2 * one, one, one, 1},
		{-one + 1, -one, 0, -one, 0, -1}, {-one, -one, -one, -one, -one, -1}, {-one - 1, -2 * one, -one, -one, -one, -2},
		{one + half, one, 2 * one, 2 * one, one, 1}, {-one - half, -2 * one, -one, -2 * one, -one, -2},
		{2*one + half, 2 * one, 3 * one, 2 * one, 2 * one, 2}, {-2*one - half, -3 * one, -2 * one, -2 * one, -2 * one, -3},
		{top - one, top - one, top - one, top - one, top - one, 16383}, {one - top, one - top, one - top, one - top, one - top, -16383},
		{top - half - 1, top - one, top, top - one, top - one, 16383}, {top - half, top - one, top, top, top - one, 16383},
		{half + 1 - top, -top, one - top, one - top, one - top, -16384}, {half - top, -top, one - top, -top, one - top, -16384},
		{most, top - one, top, top, top - one, 16383}, {-most, -top, one - top, -top, one - top, -16384},
	} {
		got := [5]int{Floor(c.a), Ceil(c.a), Round(c.a), Trunc(c.a), Whole(c.a)}
		if want := [5]int{c.floor, c.ceil, c.round, c.trunc, c.whole}; got != want {
			t.Errorf("%d: %v, want %v", c.a, got, want)
		}
	}
}

// P3.2: what lies beyond the range is taken as the bound on its side.
func TestIntegersBeyondTheRange(t *testing.T) {
	for _, call := range []func(int) int{Floor, Ceil, Round, Trunc, Whole} {
		for i, a := range invalid() {
			bound := most
			if a < 0 {
				bound = -most
			}
			if got, want := call(a), call(bound); got != want {
				t.Errorf("argument %d, %d: %d, want %d", i, a, got, want)
			}
		}
	}
}

func checkIntegers(t *testing.T, a int) {
	t.Helper()
	low := floorOf(whole(a), whole(one))
	high := -floorOf(whole(-a), whole(one))
	near := nearest(whole(a), whole(one))
	cut := low
	if a < 0 {
		cut = high
	}
	got := [5]int{Floor(a), Ceil(a), Round(a), Trunc(a), Whole(a)}
	if want := [5]int{low * one, high * one, near * one, cut * one, low}; got != want {
		t.Errorf("%d: %v, want %v", a, got, want)
	}
}

// P3.2, P3.4
func TestIntegersAreExact(t *testing.T) {
	for _, a := range append(edges(), mixed(3, 20000, most)...) {
		if inRange(a) {
			checkIntegers(t, a)
		}
	}
	for v := -16383; v < 16383; v++ {
		for _, part := range []int{0, 1, half - 1, half, half + 1, one - 1} {
			checkIntegers(t, v*one+part)
		}
	}
}

// P3.3
func TestSqrtRows(t *testing.T) {
	for _, c := range []struct{ a, want int }{
		{0, 0}, {1, 256}, {2, 362}, {3, 443}, {4, 512}, {one / 4, half}, {one - 1, one - 1}, {one, one}, {one + 1, one},
		{2 * one, 92681}, {4*one - 1, 2*one - 1}, {4 * one, 2 * one}, {4*one + 1, 2 * one},
		{16129*one - 1, 127*one - 1}, {16129 * one, 127 * one}, {16129*one + 1, 127 * one}, {most, 128*one - 1},
	} {
		if v, ok := Sqrt(c.a); v != c.want || !ok {
			t.Errorf("Sqrt(%d) = %d, %v; want %d", c.a, v, ok, c.want)
		}
	}
}

// P3.3
func TestSqrtOfInvalidNumbers(t *testing.T) {
	for _, a := range append(invalid(), -1, -2, -one, -most) {
		if v, ok := Sqrt(a); v != 0 || ok {
			t.Errorf("Sqrt(%d) = %d, %v; want 0, false", a, v, ok)
		}
	}
}

func checkSqrt(t *testing.T, a int) {
	t.Helper()
	want := int(new(big.Int).Sqrt(times(a, one)).Int64())
	if v, ok := Sqrt(a); v != want || !ok {
		t.Errorf("Sqrt(%d) = %d, %v; want %d", a, v, ok, want)
	}
}

// P3.3, P3.4
func TestSqrtIsExact(t *testing.T) {
	for a := range 5000 {
		checkSqrt(t, a)
	}
	for _, a := range append(edges(), mixed(4, 20000, most)...) {
		if a >= 0 && inRange(a) {
			checkSqrt(t, a)
		}
	}
	// Multiples of 256 have squares that are fixes: the root changes at them.
	for v := 256; v < 128*one; v += 256 {
		a := v / 256 * (v / 256)
		checkSqrt(t, a-1)
		checkSqrt(t, a)
		if a < most {
			checkSqrt(t, a+1)
		}
	}
}
