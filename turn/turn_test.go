package turn

import (
	"math"
	"math/big"
	"testing"

	"tympan/api"
)

const one, most = api.One, api.MaxFix

// table returns the sines of whole degrees from 0 to 90, worked out by floating point: the chapter's table is that, rounded.
func table() []int {
	var l []int
	for k := range 91 {
		l = append(l, int(math.Round(math.Sin(float64(k)*math.Pi/180)*one)))
	}
	return l
}

// nearest returns a / b rounded, a tie to even; b is positive.
func nearest(a, b *big.Int) int {
	two := big.NewInt(2)
	q, rest := new(big.Int).DivMod(a, b, new(big.Int))
	order := new(big.Int).Mul(rest, two).Cmp(b)
	if order > 0 || order == 0 && q.Bit(0) == 1 {
		q.Add(q, big.NewInt(1))
	}
	return int(q.Int64())
}

func times(a, b int) *big.Int { return new(big.Int).Mul(big.NewInt(int64(a)), big.NewInt(int64(b))) }

// sine is Sin as the chapter states it, for any angle.
func sine(sines []int, deg int) int {
	d := int(new(big.Int).Mod(big.NewInt(int64(deg)), big.NewInt(360*one)).Int64())
	switch {
	case d > 180*one:
		return -sine(sines, d-180*one)
	case d > 90*one:
		return sine(sines, 180*one-d)
	case d%one == 0:
		return sines[d/one]
	}
	k := d / one
	return sines[k] + nearest(times(sines[k+1]-sines[k], d%one), big.NewInt(one))
}

// cosine is Cos as the chapter states it; the reduced angle keeps the sum in range.
func cosine(sines []int, deg int) int { return sine(sines, deg%(360*one)+90*one) }

// direction is Dir as the chapter states it, for two valid fixes that are not both 0; it goes through the degrees one by one.
func direction(sines []int, y, x int) int {
	begin := 270
	switch {
	case x > 0 && y >= 0:
		begin = 0
	case x <= 0 && y > 0:
		begin = 90
	case x < 0 && y <= 0:
		begin = 180
	}
	side := func(k int) *big.Int {
		f := times(cosine(sines, k*one), y)
		return f.Sub(f, times(sine(sines, k*one), x))
	}
	k := begin
	for k < begin+90 && side(k).Sign() > 0 {
		k++
	}
	if k == begin {
		return k * one
	}
	before := side(k - 1)
	parts := new(big.Int).Mul(before, big.NewInt(one))
	return ((k-1)*one + nearest(parts, new(big.Int).Sub(before, side(k)))) % (360 * one)
}

// mixed returns n integers of all sizes and both signs, from -bound to bound, the same ones for the same seed.
func mixed(seed uint64, n, bound int) []int {
	var l []int
	for i := range n {
		seed = seed*6364136223846793005 + 1442695040888963407
		word := seed ^ seed>>29
		l = append(l, int(word)>>(i*7%64)%(bound+1))
	}
	return l
}

// angles returns the whole and half degrees of three turns about 0, the fixes next to them, and angles of many turns.
func angles() []int {
	var l []int
	for k := -1080; k <= 1080; k++ {
		for step := -2; step <= 2; step++ {
			l = append(l, k*one/2+step)
		}
	}
	for step := range 5 {
		l = append(l, most-2+step, -most+2-step)
	}
	for k := range 400 {
		l = append(l, math.MaxInt-k, math.MinInt+k, math.MaxInt-k*one, math.MinInt+k*one)
	}
	l = append(l, mixed(1, 20000, 360*one)...)
	return append(l, mixed(2, 20000, math.MaxInt-1)...)
}

func near(a, b, most int) bool { return a-b <= most && b-a <= most }

// P4.1
func TestSinRows(t *testing.T) {
	rows := []struct{ deg, want int }{
		{0, 0}, {one, 1144}, {30 * one, 32768}, {45 * one, 46341}, {89 * one, 65526}, {90 * one, 65536},
		{90*one + one/2, 65531}, {89*one + one/2, 65531}, {91 * one, 65526}, {179 * one, 1144}, {180 * one, 0},
		{181 * one, -1144}, {210 * one, -32768}, {270 * one, -65536}, {359 * one, -1144}, {360 * one, 0},
		{-one, -1144}, {-30 * one, -32768}, {-90 * one, -65536}, {-180 * one, 0}, {-270 * one, 65536}, {-360 * one, 0},
		{3630 * one, 32768}, {-3630 * one, -32768},
		// The smallest parts of a degree: 28 / 65536 of 1144 is less than a half of a fix, 29 / 65536 of it is more.
		{1, 0}, {28, 0}, {29, 1}, {-28, 0}, {-29, -1}, {180*one - 28, 0}, {180*one - 29, 1}, {180*one + 29, -1},
		// Ties: half of 1143 is 571.5, which goes up to 572, and half of 1137 is 568.5, which goes down to 568.
		{one + one/2, 1144 + 572}, {6*one + one/2, 6850 + 568}, {-one - one/2, -1716}, {180*one - one - one/2, 1716},
		// The product is rounded, not the sum: half of 1121 is 560.5, which goes down to 560, though 12505 + 560 is odd.
		{11*one + one/2, 12505 + 560},
	}
	for _, r := range rows {
		if got := Sin(r.deg); got != r.want {
			t.Errorf("Sin(%d) = %d, want %d", r.deg, got, r.want)
		}
	}
}

// P4.1
func TestSinAndCosOfWholeDegrees(t *testing.T) {
	for k, want := range table() {
		for _, turns := range []int{0, 360 * one, -360 * one, 1000 * 360 * one, -1000 * 360 * one} {
			d := k*one + turns
			got := []int{Sin(d), Sin(turns + 180*one - k*one), -Sin(d + 180*one), -Sin(turns - k*one), Cos(turns + 90*one - k*one), -Cos(d + 90*one)}
			for i, g := range got {
				if g != want {
					t.Errorf("sine %d of %d degrees and %d: %d, want %d", i, k, turns, g, want)
				}
			}
		}
	}
}

// P4.1
func TestSinAndCosAsStated(t *testing.T) {
	sines := table()
	for _, d := range angles() {
		if got, want := Sin(d), sine(sines, d); got != want {
			t.Errorf("Sin(%d) = %d, want %d", d, got, want)
		}
		if got, want := Cos(d), cosine(sines, d); got != want {
			t.Errorf("Cos(%d) = %d, want %d", d, got, want)
		}
	}
}

// P4.1
func TestTies(t *testing.T) {
	sines := table()
	up, down := 0, 0
	for k := range 90 {
		step := sines[k+1] - sines[k]
		for part := 1; part < one; part++ {
			if step*part%one != one/2 {
				continue
			}
			low := step * part / one
			even := low + low%2
			if even == low {
				down++
			} else {
				up++
			}
			if got, want := Sin(k*one+part), sines[k]+even; got != want {
				t.Errorf("Sin(%d) = %d, want %d", k*one+part, got, want)
			}
		}
	}
	if up == 0 || down == 0 {
		t.Errorf("%d ties go up and %d down", up, down)
	}
}

// P4.1
func TestGreatestAndLeastAngle(t *testing.T) {
	for _, r := range []struct{ deg, d int }{{math.MaxInt, math.MaxInt % (360 * one)}, {math.MinInt, math.MinInt%(360*one) + 360*one}} {
		if Sin(r.deg) != Sin(r.d) || Cos(r.deg) != Cos(r.d) || Sin(r.deg) == 0 {
			t.Errorf("%d: %d and %d, want those of %d: %d and %d", r.deg, Sin(r.deg), Cos(r.deg), r.d, Sin(r.d), Cos(r.d))
		}
	}
}

// P4.2
func TestDirRows(t *testing.T) {
	rows := []struct{ y, x, want int }{
		{0, 1, 0}, {1, 0, 90 * one}, {0, -1, 180 * one}, {-1, 0, 270 * one},
		{0, most, 0}, {most, 0, 90 * one}, {0, -most, 180 * one}, {-most, 0, 270 * one},
		{1, 1, 45 * one}, {1, -1, 135 * one}, {-1, -1, 225 * one}, {-1, 1, 315 * one},
		{most, most, 45 * one}, {most, -most, 135 * one}, {-most, -most, 225 * one}, {-most, most, 315 * one},
		{1, 2, 26*one + 37021}, {32768, 56756, 30 * one}, {572, 65531, one / 2},
		// Each is so near to the end of its quadrant that it is rounded to it; the last end is 360 degrees.
		{most, 1, 90 * one}, {1, -most, 180 * one}, {-most, -1, 270 * one}, {-1, most, 0},
		// Each is so near to the beginning of its quadrant that it is rounded to it.
		{1, most, 0}, {most, -1, 90 * one}, {-1, -most, 180 * one}, {-most, 1, 270 * one},
		// Ties: with 5 z + 143 x = 2^32, the vector (x, 4 z) is z / 2 fixes from 0.
		{4 * 267, 30034727, 134}, {4 * 553, 30034717, 276}, {4 * 839, 30034707, 420}, {4 * 124, 30034732, 62},
	}
	for _, r := range rows {
		if got, ok := Dir(r.y, r.x); got != r.want || !ok {
			t.Errorf("Dir(%d, %d) = %d, %v, want %d", r.y, r.x, got, ok, r.want)
		}
	}
}

// P4.2
func TestDirAsStated(t *testing.T) {
	sines := table()
	var ends []int
	for _, v := range []int{0, 1, 2, 3, 57, 58, 1144, one, one + 1, 65526, 1 << 20, most / 2, most - 1, most} {
		ends = append(ends, v, -v)
	}
	points := [][2]int{}
	for _, y := range ends {
		for _, x := range ends {
			points = append(points, [2]int{y, x})
		}
	}
	ys, xs := mixed(3, 4000, most), mixed(4, 4000, most)
	for i := range ys {
		points = append(points, [2]int{ys[i], xs[(i*5+1)%len(xs)]})
	}
	for _, p := range points {
		if p == [2]int{} {
			continue
		}
		if got, ok := Dir(p[0], p[1]); got != direction(sines, p[0], p[1]) || !ok {
			t.Errorf("Dir(%d, %d) = %d, %v, want %d", p[0], p[1], got, ok, direction(sines, p[0], p[1]))
		}
	}
}

// P4.2
func TestDirOfWholeDegrees(t *testing.T) {
	for k := range 360 {
		for _, size := range []int{1, 7, most / one} {
			if got, ok := Dir(Sin(k*one)*size, Cos(k*one)*size); got != k*one || !ok {
				t.Errorf("Dir of %d degrees = %d, %v", k, got, ok)
			}
		}
	}
}

// P4.2
func TestDirOfNothing(t *testing.T) {
	points := [][2]int{{0, 0}}
	for _, bad := range []int{most + 1, -most - 1, 1 << 46, -1 << 46, math.MaxInt, math.MinInt, math.MinInt + 1} {
		for _, good := range []int{0, 1, -1, most, -most, bad} {
			points = append(points, [2]int{bad, good}, [2]int{good, bad})
		}
	}
	for _, p := range points {
		if deg, ok := Dir(p[0], p[1]); deg != 0 || ok {
			t.Errorf("Dir(%d, %d) = %d, %v", p[0], p[1], deg, ok)
		}
	}
}

// P4.3
func TestQuarterTurnsAreExact(t *testing.T) {
	for turns := -5; turns <= 5; turns++ {
		for i, want := range []int{0, one, 0, -one} {
			d := turns*360*one + i*90*one
			if Sin(d) != want || Cos(d-90*one) != want {
				t.Errorf("%d: sine %d and cosine of a quarter less %d, want %d", d, Sin(d), Cos(d-90*one), want)
			}
		}
	}
	for _, d := range mixed(5, 5000, 1<<40) {
		if Sin(d+90*one) != Cos(d) || Sin(d+180*one) != -Sin(d) || Cos(d+180*one) != -Cos(d) {
			t.Errorf("turned by quarters, %d changes by more than its signs", d)
		}
	}
}

// P4.3
func TestSinesIncrease(t *testing.T) {
	for d := 0; d < 90*one; d++ {
		if Sin(d) > Sin(d+1) {
			t.Fatalf("Sin(%d) = %d, Sin(%d) = %d", d, Sin(d), d+1, Sin(d+1))
		}
	}
	for k := range 90 {
		if Sin(k*one) >= Sin((k+1)*one) {
			t.Errorf("%d degrees: %d, and one more: %d", k, Sin(k*one), Sin((k+1)*one))
		}
	}
}

// P4.3
func TestDirIsAnInverse(t *testing.T) {
	// A sine and a cosine are each off by up to half a fix, together by less than 0.75 fixes, which is an angle of less than 45 / 65536 degrees.
	for _, d := range angles() {
		turned := d % (360 * one)
		if turned < 0 {
			turned += 360 * one
		}
		got, ok := Dir(Sin(d), Cos(d))
		if !ok || !near(got, turned, 45) && !near(got+360*one, turned, 45) && !near(got, turned+360*one, 45) {
			t.Errorf("Dir of the sine and the cosine of %d = %d, %v", d, got, ok)
		}
	}
}
