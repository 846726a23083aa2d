package numtext

import (
	"math"
	"math/big"
	"regexp"
	"strconv"
	"strings"
	"testing"

	"tympan/api"
)

const one, most = api.One, api.MaxFix

type reading struct {
	kind, v int
	e       api.Errno
}

func integer(v int) reading { return reading{kind: api.TInt, v: v} }

func fraction(v int) reading { return reading{kind: api.TFix, v: v} }

func failure(e api.Errno) reading { return reading{e: e} }

func read(s string) reading {
	kind, v, e := Read(s)
	return reading{kind, v, e}
}

func clip(s string) string {
	if len(s) > 60 {
		return s[:50] + "... of " + strconv.Itoa(len(s)) + " bytes"
	}
	return s
}

func checkRead(t *testing.T, s string, want reading) {
	t.Helper()
	if got := read(s); got != want {
		t.Errorf("Read(%q) = %v, want %v", clip(s), got, want)
	}
}

var (
	plainForm = regexp.MustCompile(`\A[+-]?[0-9]+\z`)
	basedForm = regexp.MustCompile(`\A([1-9][0-9]?)#([0-9A-Za-z]+)\z`)
	pointForm = regexp.MustCompile(`\A[+-]?([0-9]+\.[0-9]*|\.[0-9]+)\z`)
)

// expected is what Read returns by P6.1, computed with numbers of any size.
func expected(s string) reading {
	if plainForm.MatchString(s) {
		return expectedInteger(s, 10)
	}
	if m := basedForm.FindStringSubmatch(s); m != nil {
		base, _ := strconv.Atoi(m[1])
		if base < 2 || base > 36 {
			return failure(api.ErrForm)
		}
		return expectedInteger(m[2], base)
	}
	if pointForm.MatchString(s) {
		return expectedFraction(s)
	}
	return failure(api.ErrForm)
}

func expectedInteger(s string, base int) reading {
	v, ok := new(big.Int).SetString(strings.ToLower(s), base)
	switch {
	case !ok:
		return failure(api.ErrForm)
	case v.CmpAbs(big.NewInt(api.MaxInt)) > 0:
		return failure(api.ErrRange)
	}
	return integer(int(v.Int64()))
}

func expectedFraction(s string) reading {
	if len(s)-strings.IndexByte(s, '.')-1 > 12 {
		return failure(api.ErrRange)
	}
	// Zeros at both ends of the digits make the text one that big.Rat reads.
	sign, digits := "", s
	if s[0] == '+' || s[0] == '-' {
		sign, digits = s[:1], s[1:]
	}
	r, ok := new(big.Rat).SetString(sign + "0" + digits + "0")
	if !ok {
		panic("not a fraction: " + s)
	}
	v := roundRat(r.Mul(r, big.NewRat(one, 1)))
	if v.CmpAbs(big.NewInt(most)) > 0 {
		return failure(api.ErrRange)
	}
	return fraction(int(v.Int64()))
}

// roundRat returns the integer nearest to r; a tie goes to the even one.
func roundRat(r *big.Rat) *big.Int {
	// The one nearest to r is r + 1/2 rounded down, or the integer below that if r is a tie.
	sum := new(big.Rat).Add(r, big.NewRat(1, 2))
	v := new(big.Int).Div(sum.Num(), sum.Denom())
	if sum.IsInt() && v.Bit(0) == 1 {
		v.Sub(v, big.NewInt(1))
	}
	return v
}

// P6.1
func TestReadIntegers(t *testing.T) {
	for _, c := range []struct {
		s    string
		want int
	}{
		{"0", 0}, {"-0", 0}, {"+0", 0}, {"-000", 0}, {"1", 1}, {"+1", 1}, {"-1", -1}, {"9", 9}, {"10", 10}, {"1234567890", 1234567890},
		{"007", 7}, {"+007", 7}, {"-007", -7}, {"08", 8}, {"09", 9}, {"-16384", -16384},
		{"2147483646", api.MaxInt - 1}, {"2147483647", api.MaxInt}, {"+2147483647", api.MaxInt}, {"-2147483646", 1 - api.MaxInt}, {"-2147483647", -api.MaxInt},
		{"0000000000000000000000002147483647", api.MaxInt}, {"-0000000000000000000000002147483647", -api.MaxInt},
	} {
		checkRead(t, c.s, integer(c.want))
	}
	for _, s := range []string{"2147483648", "+2147483648", "-2147483648", "2147483650", "4294967296", "4294967297", "-4294967296", "9223372036854775807", "9223372036854775808", "-9223372036854775808", "18446744073709551616", "18446744073709551617", "00000000000002147483648"} {
		checkRead(t, s, failure(api.ErrRange))
	}
}

// P6.1
func TestReadIntegersInABase(t *testing.T) {
	for _, c := range []struct {
		s    string
		want int
	}{
		{"16#FF", 255}, {"16#ff", 255}, {"16#Ff", 255}, {"2#0", 0}, {"2#1", 1}, {"2#101", 5}, {"3#21", 7}, {"8#17", 15}, {"9#88", 80}, {"10#99", 99},
		{"11#A", 10}, {"36#Z", 35}, {"36#z", 35}, {"36#zZ", 35*36 + 35}, {"36#10", 36}, {"35#y", 34}, {"35#Y", 34},
		{"2#0000000000000000000000000000000000000000000000000000000000000000000000001", 1}, {"8#0000000000000017", 15}, {"36#000000000000000000000000000000000z", 35},
		{"2#1111111111111111111111111111111", api.MaxInt}, {"10#2147483647", api.MaxInt}, {"16#7FFFFFFF", api.MaxInt}, {"16#7ffffffe", api.MaxInt - 1}, {"36#ZIK0ZJ", api.MaxInt}, {"36#zik0zj", api.MaxInt},
	} {
		checkRead(t, c.s, integer(c.want))
	}
	for _, s := range []string{
		"2#10000000000000000000000000000000", "10#2147483648", "16#80000000", "16#FFFFFFFF", "36#ZIK0ZK", "36#zik0zk", "16#100000000", "16#8000000000000000", "16#10000000000000000", "16#10000000000000001",
		"36#ZZZZZZZZZZZZZZZZZZZZ", "2#1" + strings.Repeat("0", 64), "2#1" + strings.Repeat("0", 10000), "36#" + strings.Repeat("z", 10000),
	} {
		checkRead(t, s, failure(api.ErrRange))
	}
}

// P6.1: each base, with its greatest digit and with the next one, which no base but a greater one has.
func TestReadEveryBase(t *testing.T) {
	const small, capital = "0123456789abcdefghijklmnopqrstuvwxyz", "0123456789ABCDEFGHIJKLMNOPQRSTUVWXYZ"
	for base := range 130 {
		for _, digits := range []string{small, capital} {
			for d := range 36 {
				want := failure(api.ErrForm)
				if base >= 2 && base <= 36 && d < base {
					want = integer(base + d)
				}
				checkRead(t, strconv.Itoa(base)+"#1"+digits[d:d+1], want)
			}
		}
	}
}

// P6.1
func TestReadFractions(t *testing.T) {
	for _, c := range []struct {
		s    string
		want int
	}{
		{"1.0", one}, {"1.", one}, {"+1.", one}, {"-1.", -one}, {".5", 32768}, {"+.5", 32768}, {"-.5", -32768}, {"0.5", 32768}, {"5.", 5 * one}, {"1.5", 98304}, {"-1.5", -98304}, {"12.25", 12*one + 16384},
		{"0.", 0}, {".0", 0}, {"0.0", 0}, {"-0.0", 0}, {"-.0", 0}, {"-0.", 0}, {"+0.0", 0}, {"00.250", 16384}, {"-00.250", -16384}, {"007.", 7 * one}, {"000000000000000000000000000001.5", 98304},
		{"0.1", 6554}, {"0.2", 13107}, {"0.3", 19661}, {"0.9", 58982}, {"-0.1", -6554}, {"0.00002", 1}, {"0.00001", 1}, {"0.000001", 0}, {"-0.000001", 0},
		{"16383.99998", most}, {"-16383.99998", -most}, {"16383.99999", most}, {"-16383.99999", -most}, {"+16383.99999", most}, {"016383.99999", most}, {"16383.99997", most - 1}, {"16383.", 16383 * one}, {"-16383.", -16383 * one},
		// Twelve digits behind the point.
		{"0.123456789012", 8091}, {".000000000000", 0}, {"0.999999999999", one}, {"1.999999999999", 2 * one}, {"-1.999999999999", -2 * one}, {"0.500000000000", 32768}, {"0.000000000001", 0},
	} {
		checkRead(t, c.s, fraction(c.want))
	}
	for _, s := range []string{
		"16384.0", "16384.", "-16384.", "-16384.0", "+16384.0", "16383.999999", "-16383.999999", "16384.000000000001", "20000.5", "32768.0", "65536.0", "4294967296.0", "281474976710656.0", "18446744073709551616.0", "99999999999999999999999.5",
		"0.1234567890123", "0.0000000000000", ".0000000000000", "-.5000000000000", "1.0000000000000", "0.00000762939453125", "0." + strings.Repeat("3", 100000), strings.Repeat("9", 100000) + ".",
	} {
		checkRead(t, s, failure(api.ErrRange))
	}
}

// P6.1: a number halfway between two fixes has 17 digits behind the point, so none can be read whole.
// What twelve digits leave of it is below the tie, and the next number is above it.
func TestReadNextToTies(t *testing.T) {
	for _, c := range []struct {
		below, above string
		fix          int
	}{
		{"0.000007629394", "0.000007629395", 0}, {"0.000022888183", "0.000022888184", 1}, {"0.000038146972", "0.000038146973", 2},
		{"1.000007629394", "1.000007629395", one}, {"16383.999977111816", "16383.999977111817", most - 1},
	} {
		checkRead(t, c.below, fraction(c.fix))
		checkRead(t, c.above, fraction(c.fix+1))
		checkRead(t, "-"+c.below, fraction(-c.fix))
		checkRead(t, "-"+c.above, fraction(-c.fix-1))
	}
	checkRead(t, "16383.999992370605", fraction(most))
	checkRead(t, "16383.999992370606", failure(api.ErrRange))
	checkRead(t, "-16383.999992370605", fraction(-most))
	checkRead(t, "-16383.999992370606", failure(api.ErrRange))
	for v := range one {
		digits := new(big.Rat).SetFrac64(int64(2*v+1), 2*one).FloatString(17)
		s := digits[:2+v%13]
		checkRead(t, s, expected(s))
		checkRead(t, digits, failure(api.ErrRange))
		if got := read(digits[:14]); got != fraction(v) {
			t.Errorf("Read(%q), below a tie, = %v, want the fix %d", digits[:14], got, v)
		}
	}
}

// P6.1: ties are rounded to the even one, although twelve digits behind the point make none in Read.
func TestNearest(t *testing.T) {
	for _, c := range []struct{ a, b, want int }{
		{0, 1, 0}, {7, 1, 7}, {0, 2, 0}, {1, 2, 0}, {2, 2, 1}, {3, 2, 2}, {5, 2, 2}, {7, 2, 4}, {9, 2, 4},
		{1, 3, 0}, {2, 3, 1}, {4, 3, 1}, {5, 3, 2}, {49, 100, 0}, {50, 100, 0}, {51, 100, 1}, {149, 100, 1}, {150, 100, 2}, {250, 100, 2}, {251, 100, 3},
	} {
		if got := nearest(c.a, c.b); got != c.want {
			t.Errorf("nearest(%d, %d) = %d, want %d", c.a, c.b, got, c.want)
		}
	}
}

// P6.1
func TestReadWhatIsNoNumber(t *testing.T) {
	for _, s := range []string{
		"", "+", "-", ".", "+.", "-.", "..", "#", "+#", "#.", "+-", "-+1", "+-1", "--1", "++1", "1-", "1+", "1-2", "-1-",
		" 1", "1 ", " 1.5", "1.5 ", "\t1", "1\n", "1 2", " ", "\x001", "1\x00", "+ 1", "- .5", "16# F", "16 #F", " 16#F", "16#F ",
		"1..2", "1.2.3", "..5", "5..", ".5.", "1.-2", "1.+2", "-.-5", ".-5", "-5.-",
		"1e3", "1E3", "1.5e3", "1.e3", ".5e-3", "1e", "e1", "0x10", "0b1", "0o7", "1_000", "1,5", "1.5_0", "1_0.5", "1/2", "inf", "NaN", "a", "F", "A.5", "1.A", "1a", "a1",
		"+2#1", "-2#1", "2#-1", "2#+1", "-16#FF", "2#", "16#", "36#", "#1", "#FF", "1#0", "1#", "0#0", "0#1", "37#1", "37#Z", "99#1", "100#1", "360#1", "02#1", "016#FF", "00#1", "002#1", "a#1", "A#1", "f#1",
		"2#2", "2#12", "8#8", "10#A", "16#G", "16#g", "35#Z", "35#z", "36#!", "36#[", "36#_", "2#1#1", "2##1", "##", "16#F#", "2#1.1", "2#.1", "2#1.", "2.#1", "1.6#F", "2.0#1",
		"\xff", "1\xff", "16#\xff", "1.\xff", "\xb1", "16#\xc6", "\u0661", "\uff11", "\u22121", "1\u066b5",
		// Out of range as well, but not numbers.
		"99999999999999999999x", "99999999999999999999.x", "99999999999999999999..", "16384.0.", "0.1234567890123x", "x.1234567890123", "16#80000000G", "2#" + strings.Repeat("1", 100) + "2", "--99999999999999999999", "99999999999999999999#1", "4294967298#1", "18446744073709551618#1",
		strings.Repeat("9", 100000) + " ", strings.Repeat(".", 100000), strings.Repeat("#", 100000), strings.Repeat("-", 100000),
	} {
		checkRead(t, s, failure(api.ErrForm))
	}
}

// P6.1
func TestReadNumbersOfVeryManyDigits(t *testing.T) {
	zeros, nines := strings.Repeat("0", 200000), strings.Repeat("9", 200000)
	for s, want := range map[string]reading{
		zeros: integer(0), "-" + zeros + "5": integer(-5), nines: failure(api.ErrRange), "-" + nines: failure(api.ErrRange), "1" + zeros: failure(api.ErrRange),
		"10#" + zeros + "7": integer(7), "10#" + nines: failure(api.ErrRange), "36#1" + zeros: failure(api.ErrRange),
		zeros + ".": fraction(0), zeros + "3.25": fraction(3*one + 16384), "1" + zeros + ".5": failure(api.ErrRange), nines + "." + nines: failure(api.ErrRange), "0." + zeros: failure(api.ErrRange), "." + nines: failure(api.ErrRange),
		nines + "a": failure(api.ErrForm), zeros + "." + zeros + ".": failure(api.ErrForm), "10#" + nines + "a": failure(api.ErrForm), zeros + "10#1": failure(api.ErrForm), nines + "#1": failure(api.ErrForm),
	} {
		checkRead(t, s, want)
	}
}

// P6.1: all strings of up to five bytes out of some that numbers are made of, and some that they are not made of.
func TestReadAllShortStrings(t *testing.T) {
	const bytes = "0239+-.#zA "
	level := []string{""}
	for range 6 {
		var next []string
		for _, s := range level {
			checkRead(t, s, expected(s))
			if len(s) == 5 {
				continue
			}
			for i := range len(bytes) {
				next = append(next, s+bytes[i:i+1])
			}
		}
		level = next
	}
}

// P6.1: every byte before, inside and behind a number.
func TestReadEveryByteInANumber(t *testing.T) {
	for i := range 256 {
		c := string([]byte{byte(i)})
		for _, s := range []string{"", "1", "12", "-1", "1.5", ".5", "5.", "36#1z", "16#FF"} {
			for at := range len(s) + 1 {
				with := s[:at] + c + s[at:]
				checkRead(t, with, expected(with))
			}
		}
	}
}

// mixed returns n words, the same ones for the same seed.
func mixed(seed uint64, n int) []uint64 {
	var l []uint64
	for range n {
		seed = seed*6364136223846793005 + 1442695040888963407
		l = append(l, seed^seed>>29)
	}
	return l
}

// P6.1
func TestReadManyNumbers(t *testing.T) {
	for i, word := range mixed(1, 20000) {
		sign := []string{"", "+", "-"}[i%3]
		v := int64(word >> (word % 61))
		whole, places := strconv.FormatInt(int64(word>>10%20000), 10), int(word>>40%14)
		digits := strings.Repeat("0", 20) + strconv.FormatUint(word>>3, 10)
		for _, s := range []string{
			sign + strconv.FormatInt(max(v, -(v+1)), 10),
			sign + whole + "." + digits[len(digits)-places:],
			strconv.Itoa(i%40) + "#" + strconv.FormatUint(word>>(20+word%40), 2+i%35),
		} {
			checkRead(t, s, expected(s))
		}
	}
}

// P6.2
func TestInt(t *testing.T) {
	for _, c := range []struct {
		v    int
		want string
	}{
		{0, "0"}, {1, "1"}, {-1, "-1"}, {9, "9"}, {-9, "-9"}, {10, "10"}, {-10, "-10"}, {99, "99"}, {100, "100"}, {101, "101"}, {-1000, "-1000"}, {1024, "1024"}, {1234567890, "1234567890"},
		{api.MaxInt, "2147483647"}, {-api.MaxInt, "-2147483647"}, {api.MaxInt + 1, "2147483648"}, {-api.MaxInt - 1, "-2147483648"},
		{math.MaxInt, "9223372036854775807"}, {math.MaxInt - 1, "9223372036854775806"}, {math.MinInt, "-9223372036854775808"}, {math.MinInt + 1, "-9223372036854775807"},
	} {
		if got := Int(c.v); got != c.want {
			t.Errorf("Int(%d) = %q, want %q", c.v, got, c.want)
		}
	}
	for i, word := range mixed(2, 20000) {
		v := int(word) >> (i % 64)
		if got, want := Int(v), big.NewInt(int64(v)).String(); got != want {
			t.Errorf("Int(%d) = %q, want %q", v, got, want)
		}
	}
}

// P6.3
func TestFix(t *testing.T) {
	for _, c := range []struct {
		v    int
		want string
	}{
		{0, "0.0"}, {one, "1.0"}, {-one, "-1.0"}, {10 * one, "10.0"}, {-10 * one, "-10.0"}, {16383 * one, "16383.0"}, {-16383 * one, "-16383.0"},
		{32768, "0.5"}, {-32768, "-0.5"}, {6554, "0.1"}, {58982, "0.9"}, {-one - 6554, "-1.1"},
		{16384, "0.25"}, {655, "0.01"}, {64881, "0.99"}, {-655, "-0.01"},
		{8192, "0.125"}, {66, "0.001"}, {65470, "0.999"}, {-66, "-0.001"}, {7*one + 66, "7.001"},
		{4096, "0.0625"}, {7, "0.0001"}, {65529, "0.9999"}, {-7, "-0.0001"},
		{1, "0.00002"}, {-1, "-0.00002"}, {2, "0.00003"}, {3, "0.00005"}, {one - 1, "0.99998"}, {one + 1, "1.00002"}, {-one - 1, "-1.00002"}, {-one + 1, "-0.99998"}, {100*one + 1, "100.00002"},
		{most, "16383.99998"}, {-most, "-16383.99998"}, {most - 1, "16383.99997"}, {1 - most, "-16383.99997"},
		// Two strings are equally near to these.
		{1024, "0.01562"}, {3 * 1024, "0.04688"}, {5 * 1024, "0.07812"}, {7 * 1024, "0.10938"}, {-1024, "-0.01562"}, {-3 * 1024, "-0.04688"}, {9*one + 1024, "9.01562"}, {9*one + 3*1024, "9.04688"},
	} {
		if got := Fix(c.v); got != c.want {
			t.Errorf("Fix(%d) = %q, want %q", c.v, got, c.want)
		}
	}
}

// P6.3
func TestFixOfWhatIsNoFix(t *testing.T) {
	for _, v := range []int{most + 1, -most - 1, most + 2, -most - 2, most + one, -most - one, 1 << 31, -1 << 31, 1 << 32, 1<<32 + 1, 1 << 47, -1 << 47, 1 << 62, -1 << 62, math.MaxInt, math.MaxInt - 1, math.MinInt, math.MinInt + 1} {
		if got := Fix(v); got != "" {
			t.Errorf("Fix(%d) = %q, want the empty string", v, got)
		}
	}
}

// written is what Fix returns by P6.3, with the numbers of digits tried one after the other.
func written(v int) string {
	number := big.NewRat(int64(v), one)
	for places := 1; ; places++ {
		power := new(big.Rat).SetInt(new(big.Int).Exp(big.NewInt(10), big.NewInt(int64(places)), nil))
		digits := new(big.Rat).SetInt(roundRat(new(big.Rat).Mul(number, power)))
		s := digits.Quo(digits, power).FloatString(places)
		if expected(s) == fraction(v) {
			return s
		}
	}
}

// P6.3: every fraction of a fix, with different integers in front of it and with both signs.
func TestFixOfEveryFraction(t *testing.T) {
	counts := map[int]int{}
	for part := range one {
		v := []int{0, 1, 9, 10, 4095, 16383}[part%6]*one + part
		want := written(v)
		if got := Fix(v); got != want {
			t.Errorf("Fix(%d) = %q, want %q", v, got, want)
		}
		if got := Fix(-v); v != 0 && got != "-"+want {
			t.Errorf("Fix(%d) = %q, want %q", -v, got, "-"+want)
		}
		counts[len(want)-strings.IndexByte(want, '.')-1]++
	}
	for places := 1; places <= 5; places++ {
		if counts[places] == 0 {
			t.Errorf("no fix with %d digits behind the point", places)
		}
	}
	if len(counts) != 5 {
		t.Errorf("numbers of digits behind the point: %v, want 1 to 5", counts)
	}
}

// P6.3
func TestFixHasItsForm(t *testing.T) {
	form := regexp.MustCompile(`\A-?(0|[1-9][0-9]*)\.[0-9]+\z`)
	for _, word := range mixed(3, 50000) {
		v := int(word>>20) % (most + 1)
		if word&1 == 1 {
			v = -v
		}
		s := Fix(v)
		if !form.MatchString(s) || strings.HasPrefix(s, "-") != (v < 0) {
			t.Errorf("Fix(%d) = %q", v, s)
		}
	}
}

// P6.4
func TestReadReturnsWhatWasWritten(t *testing.T) {
	numbers := []int{0, 1, -1, one, -one, api.MaxInt, -api.MaxInt, most, -most, most + 1, -most - 1}
	for part := range one {
		numbers = append(numbers, part, -part, most-part, part-most)
	}
	for i, word := range mixed(4, 50000) {
		numbers = append(numbers, int(word)>>(33+i%31))
	}
	for _, v := range numbers {
		if v >= -api.MaxInt && v <= api.MaxInt {
			checkRead(t, Int(v), integer(v))
		}
		if v >= -most && v <= most {
			checkRead(t, Fix(v), fraction(v))
		}
	}
}

// P6.4: with fewer digits behind the point, neither of the two fractions next to a fix is read as that fix.
func TestNoShorterFractionIsTheSameFix(t *testing.T) {
	for part := range one {
		v := []int{0, 1, 16383}[part%3]*one + part
		s := Fix(v)
		places, scale := 1, 10
		for ; places < len(s)-strings.IndexByte(s, '.')-1; places++ {
			below := v * scale / one
			for _, digits := range []int{below, below + 1} {
				shorter := big.NewRat(int64(digits), int64(scale)).FloatString(places)
				if read(shorter) == fraction(v) {
					t.Errorf("Fix(%d) = %q, but %q is the same fix", v, s, shorter)
				}
			}
			scale *= 10
		}
	}
}
