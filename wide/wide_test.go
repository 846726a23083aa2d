package wide

import (
	"math"
	"math/big"
	"testing"
)

const least, most = math.MinInt, math.MaxInt

// edges returns integers around which carries, signs and ties change.
func edges() []int {
	return []int{
		least, least + 1, -1<<62 - 1, -1 << 62, -1<<33 + 1, -1<<32 - 1, -1 << 32, -1<<31 - 1,
		-7, -3, -2, -1, 0, 1, 2, 3, 4, 5,
		1<<31 - 1, 1<<32 - 1, 1 << 32, 1<<32 + 1, 1 << 62, 1<<62 + 1, most - 1, most,
	}
}

// mixed returns n integers of all sizes and both signs, the same ones for the same seed.
func mixed(seed uint64, n int) []int {
	var l []int
	for i := range n {
		seed = seed*6364136223846793005 + 1442695040888963407
		word := seed ^ seed>>29
		l = append(l, int(word)>>(i*7%64))
	}
	return l
}

func product(a, b int) *big.Int {
	return new(big.Int).Mul(big.NewInt(int64(a)), big.NewInt(int64(b)))
}

// floorOf returns n / d rounded down; d is not 0.
func floorOf(n, d *big.Int) *big.Int {
	q, rest := new(big.Int).QuoRem(n, d, new(big.Int))
	if rest.Sign()*d.Sign() < 0 {
		q.Sub(q, big.NewInt(1))
	}
	return q
}

// nearestOf returns n / d rounded to the nearest integer, ties to even; d is not 0.
func nearestOf(n, d *big.Int) *big.Int {
	low := floorOf(n, d)
	twiceRest := new(big.Int).Sub(n, new(big.Int).Mul(low, d))
	twiceRest.Lsh(twiceRest, 1)
	side := twiceRest.CmpAbs(d)
	if side > 0 || side == 0 && low.Bit(0) == 1 {
		low.Add(low, big.NewInt(1))
	}
	return low
}

// fitting returns what a call that rounds to q answers.
func fitting(q *big.Int) (int, bool) {
	if !q.IsInt64() {
		return 0, false
	}
	return int(q.Int64()), true
}

func checkMul(t *testing.T, a, b int) {
	t.Helper()
	hi, lo := Mul(a, b)
	got := new(big.Int).Lsh(big.NewInt(int64(hi)), 64)
	got.Add(got, new(big.Int).SetUint64(lo))
	want := product(a, b)
	if got.Cmp(want) != 0 {
		t.Errorf("Mul(%d, %d) = %d, %d: product %v, want %v", a, b, hi, lo, got, want)
	}
	if (hi < 0) != (want.Sign() < 0) {
		t.Errorf("Mul(%d, %d): hi %d has another sign than %v", a, b, hi, want)
	}
}

func checkQuotients(t *testing.T, a, b, d int) {
	t.Helper()
	var near, low int
	var nearOK, lowOK bool
	if d != 0 {
		n, divisor := product(a, b), big.NewInt(int64(d))
		near, nearOK = fitting(nearestOf(n, divisor))
		low, lowOK = fitting(floorOf(n, divisor))
	}
	if q, ok := MulDiv(a, b, d); q != near || ok != nearOK {
		t.Errorf("MulDiv(%d, %d, %d) = %d, %v; want %d, %v", a, b, d, q, ok, near, nearOK)
	}
	if q, ok := Floor(a, b, d); q != low || ok != lowOK {
		t.Errorf("Floor(%d, %d, %d) = %d, %v; want %d, %v", a, b, d, q, ok, low, lowOK)
	}
}

// P1.1
func TestMulRows(t *testing.T) {
	for _, c := range []struct {
		a, b, hi int
		lo       uint64
	}{
		{0, 0, 0, 0},
		{0, least, 0, 0},
		{-1, 0, 0, 0},
		{-1, 1, -1, math.MaxUint64},
		{-1, -1, 0, 1},
		{6, 7, 0, 42},
		{most, 2, 0, math.MaxUint64 - 1},
		{most, 3, 1, 1<<63 - 3},
		{1<<32 + 1, 1<<32 - 1, 0, math.MaxUint64},
		{1<<32 + 1, 1<<32 + 1, 1, 1<<33 + 1},
		{-1 << 32, 1 << 32, -1, 0},
		{least, least, 1 << 62, 0},
		{least, most, -1 << 62, 1 << 63},
		{least, -1, 0, 1 << 63},
		{least, 1, -1, 1 << 63},
	} {
		if hi, lo := Mul(c.a, c.b); hi != c.hi || lo != c.lo {
			t.Errorf("Mul(%d, %d) = %d, %d; want %d, %d", c.a, c.b, hi, lo, c.hi, c.lo)
		}
	}
}

// P1.1
func TestMulIsExact(t *testing.T) {
	for _, a := range edges() {
		for _, b := range edges() {
			checkMul(t, a, b)
		}
	}
	as, bs := mixed(1, 5000), mixed(2, 5000)
	for i := range as {
		checkMul(t, as[i], bs[len(bs)-1-i])
	}
}

// P1.2
func TestCmpRows(t *testing.T) {
	for _, c := range []struct{ a, b, c, d, want int }{
		{0, least, most, 0, 0},
		{2, 6, 3, 4, 0},
		{2, 6, 3, 5, -1},
		{-2, 6, 3, -5, 1},
		{-1, 1, 0, 0, -1},
		{0, 0, -1, 1, 1},
		{-1, 1, 1, -1, 0},
		{least, least, most, most, 1},
		{least, most, most, least, 0},
		{least, most, least, least, -1},
		{least, most, least, most - 1, -1},
		{most, 2, 1, most, 1},
		{most, 2, least, -2, -1},
		{1 << 62, 4, 1 << 32, 1 << 32, 0},
		{1<<32 + 1, 1<<32 - 1, 1 << 32, 1 << 32, -1},
	} {
		if got := Cmp(c.a, c.b, c.c, c.d); got != c.want {
			t.Errorf("Cmp(%d, %d, %d, %d) = %d, want %d", c.a, c.b, c.c, c.d, got, c.want)
		}
	}
}

// P1.2
func TestCmpIsExact(t *testing.T) {
	type pair struct {
		a, b int
		n    *big.Int
	}
	var pairs []pair
	for _, a := range edges() {
		for _, b := range edges() {
			pairs = append(pairs, pair{a, b, product(a, b)})
		}
	}
	as, bs := mixed(3, 200), mixed(4, 200)
	for i := range as {
		pairs = append(pairs, pair{as[i], bs[i], product(as[i], bs[i])})
	}
	for _, l := range pairs {
		for _, r := range pairs {
			if got, want := Cmp(l.a, l.b, r.a, r.b), l.n.Cmp(r.n); got != want {
				t.Errorf("Cmp(%d, %d, %d, %d) = %d, want %d", l.a, l.b, r.a, r.b, got, want)
			}
		}
	}
}

// P1.3
func TestMulDivRows(t *testing.T) {
	for _, c := range []struct {
		a, b, d, q int
		ok         bool
	}{
		{5, 1, 2, 2, true}, {7, 1, 2, 4, true}, {-5, 1, 2, -2, true}, {-7, 1, 2, -4, true},
		{7, 1, -2, -4, true}, {-7, -1, -2, -4, true}, {1, 1, 2, 0, true}, {-1, 1, 2, 0, true},
		{1, 1, 3, 0, true}, {2, 1, 3, 1, true}, {-2, 1, 3, -1, true}, {0, most, least, 0, true},
		{0, 0, 0, 0, false}, {1, 1, 0, 0, false}, {least, least, 0, 0, false},
		{most, most, most, most, true}, {least, least, least, least, true}, {least, most, most, least, true},
		{least, 1, -1, 0, false}, {least, least, most, 0, false}, {least, least, 1, 0, false},
		{least, least + 1, least, least + 1, true}, {1, most, least, -1, true}, {least, 1, most, -1, true},
		{1, 1 << 62, least, 0, true}, {3, 1 << 62, least, -2, true}, {1, 1<<62 + 1, least, -1, true},
	} {
		if q, ok := MulDiv(c.a, c.b, c.d); q != c.q || ok != c.ok {
			t.Errorf("MulDiv(%d, %d, %d) = %d, %v; want %d, %v", c.a, c.b, c.d, q, ok, c.q, c.ok)
		}
	}
}

// P1.3
func TestFloorRows(t *testing.T) {
	for _, c := range []struct {
		a, b, d, q int
		ok         bool
	}{
		{7, 1, 2, 3, true}, {-7, 1, 2, -4, true}, {7, -1, 2, -4, true}, {7, 1, -2, -4, true},
		{-7, -1, -2, -4, true}, {-7, -1, 2, 3, true}, {-8, 1, 2, -4, true}, {-1, 1, most, -1, true},
		{1, 1, least, -1, true}, {0, -5, 3, 0, true}, {1, most, least, -1, true},
		{0, 0, 0, 0, false}, {-1, 1, 0, 0, false},
		{most, most, most, most, true}, {least, 1, 1, least, true}, {least, least, least, least, true},
		{least, 1, -1, 0, false}, {least, most, 1, 0, false},
	} {
		if q, ok := Floor(c.a, c.b, c.d); q != c.q || ok != c.ok {
			t.Errorf("Floor(%d, %d, %d) = %d, %v; want %d, %v", c.a, c.b, c.d, q, ok, c.q, c.ok)
		}
	}
}

// P1.3: ratios within 1 of a bound, where the rounding decides whether the result fits.
func TestRoundingAtTheBounds(t *testing.T) {
	type answer struct {
		q  int
		ok bool
	}
	none := answer{}
	for _, c := range []struct {
		ratio     string
		a, b, d   int
		near, low answer
	}{
		{"2^63 - 2/3", 11, 2515465100960393402, 3, answer{most, true}, answer{most, true}},
		{"-2^63 + 2/3", -11, 2515465100960393402, 3, answer{-most, true}, answer{least, true}},
		{"2^63 - 1/2", 3, 6148914691236517205, 2, none, answer{most, true}},
		{"-2^63 + 1/2", 3, -6148914691236517205, 2, answer{least, true}, answer{least, true}},
		{"2^63 - 1/3", 311, 88971434439113593, 3, none, answer{most, true}},
		{"-2^63 + 1/3", 311, 88971434439113593, -3, answer{least, true}, answer{least, true}},
		{"2^63 + 1/3", 5, 5534023222112865485, 3, none, none},
		{"-2^63 - 1/3", -5, 5534023222112865485, 3, answer{least, true}, none},
		{"2^63 + 1/2", 274177, 67280421310721, 2, none, none},
		{"-2^63 - 1/2", 274177, -67280421310721, 2, answer{least, true}, none},
		{"-2^63 - 2/3", 13, 2128470470043409802, -3, none, none},
		{"2^64 - 1/4", 9, 8198552921648689607, 4, none, none},
		{"-2^64 + 1/4", -9, 8198552921648689607, 4, none, none},
	} {
		if q, ok := MulDiv(c.a, c.b, c.d); (answer{q, ok}) != c.near {
			t.Errorf("MulDiv to %s = %d, %v; want %v", c.ratio, q, ok, c.near)
		}
		if q, ok := Floor(c.a, c.b, c.d); (answer{q, ok}) != c.low {
			t.Errorf("Floor of %s = %d, %v; want %v", c.ratio, q, ok, c.low)
		}
	}
}

// P1.3
func TestQuotientsAreExact(t *testing.T) {
	for _, a := range edges() {
		for _, b := range edges() {
			for _, d := range edges() {
				checkQuotients(t, a, b, d)
			}
		}
	}
	as, bs, ds := mixed(5, 20000), mixed(6, 20000), mixed(7, 20000)
	for i := range as {
		checkQuotients(t, as[i], bs[(i+11)%len(bs)], ds[(i*3+5)%len(ds)])
	}
}

// P1.3: small operands meet every kind of tie and sign.
func TestQuotientsOfSmallNumbers(t *testing.T) {
	for a := -30; a <= 30; a++ {
		for d := -12; d <= 12; d++ {
			checkQuotients(t, a, 1, d)
			checkQuotients(t, a, -3, d)
		}
	}
}

// P1.4: products that differ by 1 are told apart, and a ratio of a product gives its factor back.
func TestNoPrecisionIsLost(t *testing.T) {
	for _, a := range append(edges(), mixed(8, 1000)...) {
		if a > least && a < most && Cmp(a, a, a-1, a+1) != 1 {
			t.Errorf("Cmp does not tell the square of %d from the square less 1", a)
		}
		for _, b := range edges() {
			if b == 0 {
				continue
			}
			if q, ok := MulDiv(a, b, b); q != a || !ok {
				t.Errorf("MulDiv(%d, %d, %d) = %d, %v", a, b, b, q, ok)
			}
			if q, ok := Floor(b, a, b); q != a || !ok {
				t.Errorf("Floor(%d, %d, %d) = %d, %v", b, a, b, q, ok)
			}
		}
	}
}
