package root

import (
	"math"
	"math/big"
	"testing"
)

const least, most = math.MinInt, math.MaxInt

// mixed returns n integers of all sizes and both signs, from -bound to bound, the same ones for the same seed.
func mixed(seed uint64, n, bound int) []int {
	var l []int
	for i := range n {
		seed = seed*6364136223846793005 + 1442695040888963407
		word := seed ^ seed>>29
		l = append(l, int(word)>>(i*7%64)%(bound+1))
	}
	return l
}

// around returns the integers next to bound and -bound that are not beyond them, and small ones.
func around(bound int) []int {
	return []int{-bound, -bound + 1, -bound / 2, -3, -2, -1, 0, 1, 2, 3, 4, bound / 2, bound - 1, bound}
}

func whole(a int) *big.Int { return big.NewInt(int64(a)) }

// rootOf returns q * sqrt(d) rounded down, and whether it is an integer.
func rootOf(q, d int) (*big.Int, bool) {
	n := new(big.Int).Mul(whole(q), whole(q))
	n.Mul(n, whole(d))
	r := new(big.Int).Sqrt(n)
	exact := new(big.Int).Mul(r, r).Cmp(n) == 0
	if q < 0 {
		r.Neg(r)
		if !exact {
			r.Sub(r, big.NewInt(1))
		}
	}
	return r, exact
}

// signOf returns the sign of p + q * sqrt(d).
func signOf(p, q, d int) int {
	r, exact := rootOf(q, d)
	r.Add(r, whole(p))
	if r.Sign() == 0 && !exact {
		return 1
	}
	return r.Sign()
}

// cutOf returns (p + q * sqrt(d)) / m rounded down; m is positive.
func cutOf(p, q, d, m int) int {
	r, _ := rootOf(q, d)
	r.Add(r, whole(p))
	return int(r.Div(r, whole(m)).Int64())
}

func checkRoots(t *testing.T, n uint64) {
	t.Helper()
	b := new(big.Int).SetUint64(n)
	r := new(big.Int).Sqrt(b)
	low, high := r.Uint64(), r.Uint64()
	if new(big.Int).Mul(r, r).Cmp(b) < 0 {
		high++
	}
	if got := Floor(n); got != low {
		t.Errorf("Floor(%d) = %d, want %d", n, got, low)
	}
	if got := Ceil(n); got != high {
		t.Errorf("Ceil(%d) = %d, want %d", n, got, high)
	}
}

func checkSign(t *testing.T, p, q, d int) {
	t.Helper()
	want := signOf(p, q, d)
	if s, ok := Sign(p, q, d); s != want || !ok {
		t.Errorf("Sign(%d, %d, %d) = %d, %v; want %d", p, q, d, s, ok, want)
	}
}

func checkCut(t *testing.T, p, q, d, m int) {
	t.Helper()
	want := cutOf(p, q, d, m)
	if v, ok := Cut(p, q, d, m); v != want || !ok {
		t.Errorf("Cut(%d, %d, %d, %d) = %d, %v; want %d", p, q, d, m, v, ok, want)
	}
}

// P2.1
func TestRootRows(t *testing.T) {
	for _, c := range []struct{ n, low, high uint64 }{
		{0, 0, 0}, {1, 1, 1}, {2, 1, 2}, {3, 1, 2}, {4, 2, 2}, {5, 2, 3}, {8, 2, 3}, {9, 3, 3}, {10, 3, 4},
		{math.MaxUint32, 65535, 65536}, {1 << 32, 65536, 65536}, {1<<32 + 1, 65536, 65537},
		{1<<62 - 1, 1<<31 - 1, 1 << 31}, {1 << 62, 1 << 31, 1 << 31}, {1<<62 + 1, 1 << 31, 1<<31 + 1},
		{math.MaxInt64, 3037000499, 3037000500}, {1 << 63, 3037000499, 3037000500},
		{math.MaxUint32*math.MaxUint32 - 1, math.MaxUint32 - 1, math.MaxUint32},
		{math.MaxUint32 * math.MaxUint32, math.MaxUint32, math.MaxUint32},
		{math.MaxUint32*math.MaxUint32 + 1, math.MaxUint32, 1 << 32},
		{math.MaxUint64 - 1, math.MaxUint32, 1 << 32}, {math.MaxUint64, math.MaxUint32, 1 << 32},
	} {
		if got := Floor(c.n); got != c.low {
			t.Errorf("Floor(%d) = %d, want %d", c.n, got, c.low)
		}
		if got := Ceil(c.n); got != c.high {
			t.Errorf("Ceil(%d) = %d, want %d", c.n, got, c.high)
		}
	}
}

// P2.1
func TestRootsOfSmallNumbers(t *testing.T) {
	for n := range uint64(5000) {
		checkRoots(t, n)
	}
}

// P2.1
func TestRootsOfSquaresAndTheirNeighbours(t *testing.T) {
	for i := range 5000 {
		for _, r := range []uint64{uint64(i) + 1, 1<<16 - 2500 + uint64(i), 1<<31 - 2500 + uint64(i), math.MaxUint32 - uint64(i)} {
			checkRoots(t, r*r-1)
			checkRoots(t, r*r)
			checkRoots(t, r*r+1)
		}
	}
}

// P2.1
func TestRootsOfNumbersOfAllSizes(t *testing.T) {
	for _, n := range mixed(1, 20000, most-1) {
		checkRoots(t, uint64(n))
	}
	for i := range 64 {
		checkRoots(t, 1<<i-1)
		checkRoots(t, 1<<i)
		checkRoots(t, 1<<i+1)
	}
}

// P2.2
func TestSignRows(t *testing.T) {
	for _, c := range []struct{ p, q, d, want int }{
		{-3, 2, 2, -1}, {3, -2, 2, 1}, {3, 2, 2, 1}, {-3, -2, 2, -1},
		{-2, 1, 4, 0}, {2, -1, 4, 0}, {-4, 2, 4, 0}, {-6, 3, 4, 0}, {2, 1, 4, 1},
		{0, 0, 0, 0}, {0, 0, 5, 0}, {0, 7, 0, 0}, {0, -7, 0, 0},
		{1, 0, 5, 1}, {-1, 0, 5, -1}, {1, -7, 0, 1}, {-1, 7, 0, -1},
		{0, 1, 1, 1}, {0, -1, 1, -1},
		{1 << 62, 0, 0, 1}, {-1 << 62, 0, 0, -1}, {1 << 62, -1 << 31, 1 << 31, 1}, {-1 << 62, 1 << 31, 1 << 31, -1},
		{0, 1 << 31, 1 << 31, 1}, {0, -1 << 31, 1 << 31, -1},
		{-1 << 46, 1 << 31, 1 << 30, 0}, {-1<<46 - 1, 1 << 31, 1 << 30, -1}, {-1<<46 + 1, 1 << 31, 1 << 30, 1},
		{1 << 46, -1 << 31, 1 << 30, 0}, {1<<46 - 1, -1 << 31, 1 << 30, -1}, {1<<46 + 1, -1 << 31, 1 << 30, 1},
		// 2^46.5 lies between 99516432383215 and 99516432383216.
		{-99516432383215, 1 << 31, 1 << 31, 1}, {-99516432383216, 1 << 31, 1 << 31, -1},
		{99516432383215, -1 << 31, 1 << 31, -1}, {99516432383216, -1 << 31, 1 << 31, 1},
	} {
		if s, ok := Sign(c.p, c.q, c.d); s != c.want || !ok {
			t.Errorf("Sign(%d, %d, %d) = %d, %v; want %d", c.p, c.q, c.d, s, ok, c.want)
		}
	}
}

// P2.2
func TestSignIsExact(t *testing.T) {
	for _, p := range around(1 << 62) {
		for _, q := range around(1 << 31) {
			for _, d := range around(1 << 31) {
				if d >= 0 {
					checkSign(t, p, q, d)
				}
			}
		}
	}
	ps, qs, ds := mixed(2, 20000, 1<<62), mixed(3, 20000, 1<<31), mixed(4, 20000, 1<<31)
	for i := range ps {
		checkSign(t, ps[i], qs[(i+11)%len(qs)], max(ds[(i*3+5)%len(ds)], 0))
	}
}

// P2.2: p is next to -q * sqrt(d), where the sign changes.
func TestSignNextToZero(t *testing.T) {
	qs, ds := mixed(5, 20000, 1<<31), mixed(6, 20000, 1<<31)
	for i, q := range qs {
		d := max(ds[(i*3+5)%len(ds)], 0)
		r, _ := rootOf(q, d)
		for step := -1; step <= 2; step++ {
			checkSign(t, -int(r.Int64())-step, q, d)
		}
	}
}

// P2.2
func TestSignOfSmallNumbers(t *testing.T) {
	for p := -20; p <= 20; p++ {
		for q := -6; q <= 6; q++ {
			for d := range 26 {
				checkSign(t, p, q, d)
			}
		}
	}
}

// P2.2
func TestSignRejectsNumbersOutOfRange(t *testing.T) {
	for _, c := range []struct{ p, q, d int }{
		{1<<62 + 1, 1, 1}, {-1<<62 - 1, 1, 1}, {most, 1, 1}, {least, 1, 1},
		{1, 1<<31 + 1, 1}, {1, -1<<31 - 1, 1}, {1, most, 1}, {1, least, 1},
		{1, 1, -1}, {1, 1, 1<<31 + 1}, {1, 1, most}, {1, 1, least}, {1, 0, -1}, {1, 0, 1<<31 + 1},
		{1, 1 << 32, 1}, {1, -1 << 32, 1}, {1, 1, 1 << 32}, {most, most, most}, {least, least, least},
	} {
		if s, ok := Sign(c.p, c.q, c.d); s != 0 || ok {
			t.Errorf("Sign(%d, %d, %d) = %d, %v; want 0, false", c.p, c.q, c.d, s, ok)
		}
	}
}

// P2.3
func TestCutRows(t *testing.T) {
	for _, c := range []struct{ p, q, d, m, want int }{
		{0, 1, 2, 1, 1}, {0, -1, 2, 1, -2}, {0, 1, 4, 1, 2}, {0, -1, 4, 1, -2},
		{0, 0, 0, 1, 0}, {0, 9, 0, 7, 0}, {0, -9, 0, 7, 0}, {0, 0, 9, 7, 0},
		{7, 0, 0, 2, 3}, {-7, 0, 0, 2, -4}, {-8, 0, 0, 2, -4}, {-1, 0, 0, 1 << 40, -1}, {1, 0, 0, 1 << 40, 0},
		{1, 1, 4, 3, 1}, {1, 1, 3, 3, 0}, {-1, -1, 4, 3, -1}, {-1, -1, 5, 3, -2},
		{2, -1, 4, 5, 0}, {2, -1, 5, 5, -1}, {-2, 1, 3, 5, -1},
		{1 << 60, 0, 0, 1, 1 << 60}, {-1 << 60, 0, 0, 1, -1 << 60}, {1 << 60, 0, 0, 1 << 40, 1 << 20}, {-1 << 60, 0, 0, 1 << 40, -1 << 20},
		{0, 1 << 31, 1 << 30, 1, 1 << 46}, {0, -1 << 31, 1 << 30, 1, -1 << 46},
		{0, 1 << 31, 1 << 31, 1, 99516432383215}, {0, -1 << 31, 1 << 31, 1, -99516432383216},
		{1 << 60, 1 << 31, 1 << 31, 1, 1<<60 + 99516432383215}, {-1 << 60, -1 << 31, 1 << 31, 1, -1<<60 - 99516432383216},
		{0, -1, 1 << 31, 1 << 40, -1}, {0, 1, 1 << 31, 1 << 40, 0},
	} {
		if v, ok := Cut(c.p, c.q, c.d, c.m); v != c.want || !ok {
			t.Errorf("Cut(%d, %d, %d, %d) = %d, %v; want %d", c.p, c.q, c.d, c.m, v, ok, c.want)
		}
	}
}

// P2.3
func TestCutIsExact(t *testing.T) {
	for _, p := range around(1 << 60) {
		for _, q := range around(1 << 31) {
			for _, d := range around(1 << 31) {
				for _, m := range []int{1, 2, 3, 1<<31 + 1, 1<<40 - 1, 1 << 40} {
					if d >= 0 {
						checkCut(t, p, q, d, m)
					}
				}
			}
		}
	}
	ps, qs := mixed(7, 20000, 1<<60), mixed(8, 20000, 1<<31)
	ds, ms := mixed(9, 20000, 1<<31), mixed(10, 20000, 1<<40)
	for i := range ps {
		checkCut(t, ps[i], qs[(i+11)%len(qs)], max(ds[(i*3+5)%len(ds)], 0), max(ms[(i*7+2)%len(ms)], 1))
	}
}

// P2.3
func TestCutOfSmallNumbers(t *testing.T) {
	for p := -12; p <= 12; p++ {
		for q := -5; q <= 5; q++ {
			for d := range 17 {
				for m := 1; m <= 6; m++ {
					checkCut(t, p, q, d, m)
				}
			}
		}
	}
}

// P2.3
func TestCutRejectsNumbersOutOfRange(t *testing.T) {
	for _, c := range []struct{ p, q, d, m int }{
		{1<<60 + 1, 1, 1, 1}, {-1<<60 - 1, 1, 1, 1}, {1 << 62, 1, 1, 1}, {most, 1, 1, 1}, {least, 1, 1, 1},
		{1, 1<<31 + 1, 1, 1}, {1, -1<<31 - 1, 1, 1}, {1, most, 1, 1}, {1, least, 1, 1},
		{1, 1, -1, 1}, {1, 1, 1<<31 + 1, 1}, {1, 1, most, 1}, {1, 1, least, 1}, {1, 0, -1, 1}, {1, 0, 1<<31 + 1, 1},
		{1, 1, 1, 0}, {1, 1, 1, -1}, {1, 1, 1, 1<<40 + 1}, {1, 1, 1, most}, {1, 1, 1, least}, {0, 0, 0, 0},
		{most, most, most, most}, {least, least, least, least},
	} {
		if v, ok := Cut(c.p, c.q, c.d, c.m); v != 0 || ok {
			t.Errorf("Cut(%d, %d, %d, %d) = %d, %v; want 0, false", c.p, c.q, c.d, c.m, v, ok)
		}
	}
}

// P2.4: Sign finds (p + q * sqrt(d)) / m from the point that Cut gives on, and before the next one.
func TestSidesOfACutPoint(t *testing.T) {
	ps, qs := mixed(11, 20000, 1<<60), mixed(12, 20000, 1<<31)
	ds, ms := mixed(13, 20000, 1<<31), mixed(14, 20000, 1<<40)
	for i := range ps {
		p, q := ps[(i*5+1)%len(ps)], qs[i]
		d, m := max(ds[(i*3+7)%len(ds)], 0), max(ms[(i*11+4)%len(ms)], 1)
		v, ok := Cut(p, q, d, m)
		if !ok {
			t.Fatalf("Cut(%d, %d, %d, %d) is refused", p, q, d, m)
		}
		at, atOK := Sign(p-v*m, q, d)
		next, nextOK := Sign(p-(v+1)*m, q, d)
		if !atOK || !nextOK || at < 0 || next >= 0 {
			t.Errorf("Cut(%d, %d, %d, %d) = %d: sign %d there, %d at the next point", p, q, d, m, v, at, next)
		}
	}
}

// P2.4: a quadratic segment with the control points (0, 0), (w, 0) and (w, 1) meets the height y / h at
// x = w (2 t - t^2) with t = sqrt(y / h), which is (-y w + 2 w sqrt(y h)) / h.
func TestCrossingOfAQuadraticSegment(t *testing.T) {
	for _, w := range []int{1, 7, 8191, 16382} {
		for _, h := range []int{1, 3, 64, 1000} {
			for y := range h + 1 {
				checkCrossing(t, w, h, y)
			}
		}
	}
}

// checkCrossing holds the crossing against every point around it; x is at least n / h if 2 w sqrt(y h) is at least n + y w.
func checkCrossing(t *testing.T, w, h, y int) {
	t.Helper()
	left, ok := Cut(-y*w, 2*w, y*h, h)
	if !ok || left < 0 || left > w {
		t.Errorf("w %d, h %d, y %d: the crossing is at %d, %v", w, h, y, left, ok)
	}
	for x := left - 2; x <= left+2; x++ {
		bound := x*h + y*w
		reached := bound <= 0 || 4*w*w*y*h >= bound*bound
		if s, ok := Sign(-bound, 2*w, y*h); !ok || (s >= 0) != reached || reached != (x <= left) {
			t.Errorf("w %d, h %d, y %d: sign %d, %v at %d; the crossing is past it: %v", w, h, y, s, ok, x, reached)
		}
	}
}
