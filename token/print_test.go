package token

import (
	"math"
	"math/rand/v2"
	"slices"
	"strings"
	"testing"

	"tympan/api"
	"tympan/numtext"
	"tympan/quote"
)

var everyKind = []int{api.TInt, api.TFix, api.TName, api.TLit, api.TNow, api.TString, api.TOpen, api.TClose, api.TLeft, api.TRight, api.TBegin, api.TEnd}

// checkMay checks that May and Print agree on whether a token is valid, whatever its At.
func checkMay(t *testing.T, one api.Token, want bool) {
	t.Helper()
	for _, offset := range []int{0, 1, -1, 77, api.MaxText + 1, math.MaxInt, math.MinInt} {
		one.At = offset
		if got := May(one); got != want {
			t.Errorf("May(%s) = %v, want %v", brief(one), got, want)
		}
	}
	if want {
		if s, e := Print([]api.Token{one}); e != api.OK {
			t.Errorf("Print of %s = %.60q, %d", brief(one), s, e)
		}
		return
	}
	open := tok(api.TOpen, 0, "")
	for _, l := range [][]api.Token{{one}, {one, open}, {open, one}, {open, one, open}, {one, one}} {
		if s, e := Print(l); s != "" || e != api.ErrArg {
			t.Errorf("Print of %s = %.60q, %d", brief(l), s, e)
		}
	}
}

// P8.3: the kind.
func TestMayKinds(t *testing.T) {
	checkMay(t, api.Token{}, false)
	for kind := -20; kind <= 300; kind++ {
		if !slices.Contains(everyKind, kind) {
			checkMay(t, tok(kind, 0, ""), false)
			checkMay(t, tok(kind, 0, "a"), false)
		}
	}
	for _, kind := range []int{math.MinInt, math.MaxInt, 1 << 32, 1<<32 + api.TOpen, -api.TOpen} {
		checkMay(t, tok(kind, 0, ""), false)
	}
	for _, kind := range everyKind {
		if kind != api.TName {
			checkMay(t, tok(kind, 0, ""), true)
		}
	}
	checkMay(t, name("a"), true)
}

// P8.3: the number.
func TestMayNumbers(t *testing.T) {
	for _, n := range []int{0, 1, -1, 65536, api.MaxFix - 1, api.MaxFix, -api.MaxFix, api.MaxFix + 1, -api.MaxFix - 1, api.MaxInt - 1, api.MaxInt, -api.MaxInt, api.MaxInt + 1, -api.MaxInt - 1, 1 << 32, 1<<32 + 1, -1 << 32, math.MaxInt, math.MinInt} {
		size := max(n, -n)
		if n == math.MinInt {
			size = math.MaxInt
		}
		for _, kind := range everyKind {
			s := ""
			if kind == api.TName {
				s = "a"
			}
			want := n == 0
			switch kind {
			case api.TInt:
				want = size <= 1<<31-1
			case api.TFix:
				want = size <= 1<<30-1
			}
			checkMay(t, tok(kind, n, s), want)
		}
	}
	// Beside a number that would be valid, the string is empty.
	for _, s := range []string{"x", "1", " ", "\x00"} {
		checkMay(t, tok(api.TInt, 1, s), false)
		checkMay(t, tok(api.TFix, 1, s), false)
		checkMay(t, tok(api.TInt, 0, s), false)
		checkMay(t, tok(api.TFix, 0, s), false)
	}
	for _, kind := range []int{api.TLit, api.TNow, api.TString, api.TName} {
		checkMay(t, tok(kind, 1, "a"), false)
		checkMay(t, tok(kind, -1, "a"), false)
		checkMay(t, tok(kind, 0, "a"), true)
	}
}

// P8.3: the name.
func TestMayNames(t *testing.T) {
	full := strings.Repeat("n", api.MaxName)
	digits := strings.Repeat("1", api.MaxName)
	for s, alone := range map[string]bool{
		"a": true, "+": true, "16#G": true, "1e3": true, "~": true, "\\": true, "\xff": true, "\x01\x7f": true, "é": true, full: true, strings.Repeat("é", api.MaxName/2): true, "-16#F": true, "37#1": true, "99999999999x": true,
		"": false, "1": false, "-0": false, "007": false, "1.5": false, ".5": false, "16#ff": false, "9999999999": false, "0.0000000000001": false, "16384.0": false, "36#zzzzzzzz": false, digits: false,
	} {
		checkMay(t, name(s), alone)
		checkMay(t, tok(api.TLit, 0, s), true)
		checkMay(t, tok(api.TNow, 0, s), true)
	}
	for _, s := range []string{full + "n", "/" + full, full + full, digits + "1", strings.Repeat("n", 100000), strings.Repeat("é", api.MaxName/2) + "e"} {
		for _, kind := range []int{api.TName, api.TLit, api.TNow} {
			checkMay(t, tok(kind, 0, s), false)
		}
	}
	for c := range 256 {
		b := string([]byte{byte(c)})
		regular := !strings.Contains("\x00\t\n\f\r ()<>[]{}/%", b)
		for _, s := range []string{b, b + "a", "a" + b, "a" + b + "a", full[1:] + b} {
			_, _, e := numtext.Read(s)
			checkMay(t, name(s), regular && e == api.ErrForm)
			checkMay(t, tok(api.TLit, 0, s), regular)
			checkMay(t, tok(api.TNow, 0, s), regular)
			checkMay(t, tok(api.TString, 0, s), true)
			for _, kind := range everyKind[6:] {
				checkMay(t, tok(kind, 0, s), false)
			}
		}
	}
	for i, s := range []string{"{", "}", "[", "]", "<<", ">>"} {
		checkMay(t, tok(api.TOpen+i, 0, s), false)
		checkMay(t, name(s), false)
	}
}

// P8.3: the bytes of a string.
func TestMayStrings(t *testing.T) {
	for n, want := range map[int]bool{0: true, 1: true, api.MaxName + 1: true, api.MaxString - 1: true, api.MaxString: true, api.MaxString + 1: false, 100000: false} {
		checkMay(t, tok(api.TString, 0, strings.Repeat("s", n)), want)
		checkMay(t, tok(api.TString, 0, strings.Repeat("\xff", n)), want)
	}
	checkMay(t, tok(api.TString, 0, allBytes()), true)
}

// P8.3: May holds for a token exactly if some text contains it.
func TestMayOfShortTexts(t *testing.T) {
	// What some text contains is valid.
	eachString("a1.#-/<>()[}% \n", 4, func(s string) {
		if one, _, e := Next(s, 0); e == api.OK && one.Kind != 0 && !May(one) {
			t.Errorf("Next(%q, 0) = %v, which is not valid", s, one)
		}
	})
	// What is valid is contained in some text: the one that is written here by hand.
	eachString("a1.#-/ %", 4, func(s string) {
		for kind, before := range map[int]string{api.TName: "", api.TLit: "/", api.TNow: "//"} {
			one, next, e := Next(before+s, 0)
			contained := e == api.OK && one == tok(kind, 0, s) && next == len(before+s)
			if got := May(tok(kind, 0, s)); got != contained {
				t.Errorf("May of the kind %d and %q = %v, but Next = %v, %d, %d", kind, s, got, one, next, e)
			}
		}
	})
}

func checkPrint(t *testing.T, l []api.Token, want string, e api.Errno) {
	t.Helper()
	kept := slices.Clone(l)
	got, gotE := Print(l)
	if got != want || gotE != e {
		t.Errorf("Print of %d tokens %s = %.60q of %d bytes, %d, want %.60q of %d bytes, %d", len(l), brief(l), got, len(got), gotE, want, len(want), e)
	}
	if !slices.Equal(kept, l) {
		t.Errorf("Print changed %s to %s", brief(kept), brief(l))
	}
}

// P8.3
func TestPrintRows(t *testing.T) {
	checkPrint(t, nil, "", api.OK)
	checkPrint(t, []api.Token{}, "", api.OK)
	for _, c := range []struct {
		one  api.Token
		want string
	}{
		{tok(api.TInt, 0, ""), "0"}, {tok(api.TInt, 1, ""), "1"}, {tok(api.TInt, -12, ""), "-12"}, {tok(api.TInt, api.MaxInt, ""), "2147483647"}, {tok(api.TInt, -api.MaxInt, ""), "-2147483647"},
		{tok(api.TFix, 0, ""), "0.0"}, {tok(api.TFix, 1, ""), "0.00002"}, {tok(api.TFix, 65536, ""), "1.0"}, {tok(api.TFix, -32768, ""), "-0.5"}, {tok(api.TFix, api.MaxFix, ""), numtext.Fix(api.MaxFix)}, {tok(api.TFix, -api.MaxFix, ""), "-" + numtext.Fix(api.MaxFix)},
		{name("a"), "a"}, {name("+"), "+"}, {name("\xff"), "\xff"}, {tok(api.TLit, 0, "a"), "/a"}, {tok(api.TLit, 0, ""), "/"}, {tok(api.TLit, 0, "12"), "/12"}, {tok(api.TNow, 0, "a"), "//a"}, {tok(api.TNow, 0, ""), "//"}, {tok(api.TNow, 0, "1.50"), "//1.50"},
		{tok(api.TString, 0, ""), "()"}, {tok(api.TString, 0, "a(b)\\\n"), `(a\(b\)\\\n)`}, {tok(api.TString, 0, "\x00\xff%"), `(\000\377%)`}, {tok(api.TString, 0, "12"), "(12)"}, {tok(api.TString, 0, allBytes()), quote.Paren(allBytes())},
		{tok(api.TOpen, 0, ""), "{"}, {tok(api.TClose, 0, ""), "}"}, {tok(api.TLeft, 0, ""), "["}, {tok(api.TRight, 0, ""), "]"}, {tok(api.TBegin, 0, ""), "<<"}, {tok(api.TEnd, 0, ""), ">>"},
	} {
		checkPrint(t, []api.Token{c.one}, c.want, api.OK)
		checkPrint(t, []api.Token{at(c.one, -5)}, c.want, api.OK)
		checkPrint(t, []api.Token{c.one, at(c.one, 9)}, c.want+" "+c.want, api.OK)
		checkPrint(t, []api.Token{tok(api.TLit, 0, ""), c.one, tok(api.TNow, 0, "")}, "/ "+c.want+" //", api.OK)
	}
}

// P8.3: the limit of tokens, and that a token that is not valid takes precedence.
func TestPrintOfManyTokens(t *testing.T) {
	for _, c := range []struct {
		one  api.Token
		text string
	}{{tok(api.TOpen, 0, ""), "{"}, {tok(api.TEnd, 0, ""), ">>"}, {tok(api.TLit, 0, ""), "/"}, {tok(api.TInt, 1000, ""), "1000"}, {tok(api.TFix, -65536, ""), "-1.0"}, {tok(api.TString, 0, "ab"), "(ab)"}} {
		l := slices.Repeat([]api.Token{c.one}, api.MaxTokens)
		checkPrint(t, l, strings.Repeat(c.text+" ", api.MaxTokens-1)+c.text, api.OK)
		checkPrint(t, append(l, c.one), "", api.ErrLimit)
		checkPrint(t, slices.Concat(l, l), "", api.ErrLimit)
		bad := tok(api.TOpen, 1, "")
		checkPrint(t, append(l, bad), "", api.ErrArg)
		checkPrint(t, append([]api.Token{bad}, l...), "", api.ErrArg)
		checkPrint(t, slices.Concat(l, l, []api.Token{bad}), "", api.ErrArg)
	}
}

// P8.3: the limit of the text, reached by each kind of token.
func TestPrintOfLongTexts(t *testing.T) {
	long := tok(api.TString, 0, strings.Repeat("s", api.MaxString))
	filled := func(n int) []api.Token { // a text of n bytes, between 16013 and 20014
		return []api.Token{long, long, long, long, tok(api.TString, 0, strings.Repeat("s", n-16011-3))}
	}
	for n, e := range map[int]api.Errno{api.MaxText - 1: api.OK, api.MaxText: api.OK, api.MaxText + 1: api.ErrLimit, api.MaxText + 2: api.ErrLimit} {
		if s, got := Print(filled(n)); got != e || e == api.OK && len(s) != n || e != api.OK && s != "" {
			t.Errorf("Print of a text of %d bytes = %d bytes, %d", n, len(s), got)
		}
	}
	texts, tokens := samples()
	for i, one := range tokens {
		s, _ := Print([]api.Token{one})
		for n := api.MaxText - 1; n <= api.MaxText+1; n++ {
			l := append(filled(n-1-len(s)), one)
			got, e := Print(l)
			if n <= api.MaxText && (len(got) != n || e != api.OK) || n > api.MaxText && (got != "" || e != api.ErrLimit) {
				t.Errorf("Print of a text of %d bytes that ends with %q = %d bytes, %d", n, texts[i], len(got), e)
			}
		}
	}
	// The bytes of the text count, not those of the strings.
	octal := tok(api.TString, 0, strings.Repeat("\xff", api.MaxString))
	checkPrint(t, []api.Token{octal}, "("+strings.Repeat(`\377`, api.MaxString)+")", api.OK)
	checkPrint(t, []api.Token{octal, octal}, "", api.ErrLimit)
	checkPrint(t, []api.Token{octal, octal, {}}, "", api.ErrArg)
	checkPrint(t, slices.Repeat([]api.Token{octal}, api.MaxTokens), "", api.ErrLimit)
	checkPrint(t, slices.Repeat([]api.Token{tok(api.TInt, 10000, "")}, api.MaxTokens), "", api.ErrLimit)
	checkPrint(t, append(slices.Repeat([]api.Token{octal}, api.MaxTokens), name("1")), "", api.ErrArg)
}

// someToken is a valid token, of each kind about as often.
func someToken(random *rand.Rand) api.Token {
	bytes := func(most int) string {
		b := make([]byte, random.IntN(most+1))
		for i := range b {
			b[i] = byte(random.IntN(256))
		}
		return string(b)
	}
	for {
		one := api.Token{Kind: everyKind[random.IntN(len(everyKind))], At: random.IntN(100) - 50}
		switch one.Kind {
		case api.TInt:
			one.N = (random.IntN(2*api.MaxInt+1) - api.MaxInt) >> random.IntN(32)
		case api.TFix:
			one.N = (random.IntN(2*api.MaxFix+1) - api.MaxFix) >> random.IntN(31)
		case api.TString:
			one.S = bytes(12)
		case api.TName, api.TLit, api.TNow:
			one.S = bytes(3)
			if random.IntN(2) == 0 {
				one.S = numtext.Int(random.IntN(300)) + []string{"", "#", ".", "x", "-"}[random.IntN(5)]
			}
		}
		if May(one) {
			return one
		}
	}
}

// someTokens are up to most valid tokens.
func someTokens(random *rand.Rand, most int) []api.Token {
	var l []api.Token
	for range random.IntN(most + 1) {
		l = append(l, someToken(random))
	}
	return l
}

// P8.4: All returns what Print wrote.
func TestAllOfPrint(t *testing.T) {
	random := rand.New(rand.NewPCG(8, 4))
	check := func(l []api.Token) {
		t.Helper()
		s, e := Print(l)
		back, offset, backE := All(s)
		if e != api.OK || backE != api.OK || offset != 0 || !slices.Equal(bare(back), bare(l)) {
			t.Errorf("tokens %s, printed as %.300q, %d, are read as %s, %d, %d", brief(l), s, e, brief(back), offset, backE)
		}
		again, e := Print(back)
		if again != s || e != api.OK {
			t.Errorf("the text %.300q is printed as %.300q, %d", s, again, e)
		}
	}
	for range 6000 {
		check(someTokens(random, 12))
	}
	texts, tokens := samples()
	for i := range texts {
		for j := range texts {
			check([]api.Token{tokens[i], tokens[j]})
		}
		check(slices.Repeat(tokens[i:i+1], api.MaxText/(max(len(quote.Paren(tokens[i].S)), 11)+1)))
	}
	for c := range 256 {
		b := strings.Repeat(string([]byte{byte(c)}), 9)
		check([]api.Token{tok(api.TString, 0, b), tok(api.TString, 0, b+"7"), tok(api.TString, 0, "7"+b)})
		for _, kind := range []int{api.TName, api.TLit, api.TNow} {
			if one := tok(kind, 0, "x"+b); May(one) {
				check([]api.Token{one, one})
			}
		}
	}
	check([]api.Token{tok(api.TString, 0, allBytes()), tok(api.TLit, 0, strings.Repeat("n", api.MaxName)), tok(api.TString, 0, strings.Repeat("\xfe", 4000)), tok(api.TNow, 0, strings.Repeat("9", api.MaxName))})
	check(slices.Repeat([]api.Token{tok(api.TLit, 0, "")}, api.MaxTokens))
	for n := -api.MaxFix; n <= api.MaxFix; n += 1 << 17 * 3001 / 1000 {
		check([]api.Token{tok(api.TFix, n, ""), tok(api.TInt, n, ""), tok(api.TInt, 2*n, "")})
	}
}

// someGap is blanks and comments, at least one of them; a comment ends unless it is the last of all.
func someGap(random *rand.Rand) string {
	gap := ""
	for gap == "" || random.IntN(3) == 0 {
		gap += []string{" ", "\x00", "\t", "\n", "\f", "\r", "\r\n", "%\n", "% (a {\r", "%%)>>\n", "%\xff/<<\r\n", "%1 2\f3\n"}[random.IntN(12)]
	}
	return gap
}

// P8.4: blanks and comments between tokens change nothing but At.
func TestGapsHaveNoEffect(t *testing.T) {
	random := rand.New(rand.NewPCG(8, 5))
	for range 6000 {
		l := someTokens(random, 12)
		s, before := "", ""
		for i, one := range l {
			text, e := Print([]api.Token{one})
			if e != api.OK {
				t.Fatalf("Print of %v = %d", one, e)
			}
			// A gap is needed only where the tokens would be one.
			if random.IntN(3) > 0 || i > 0 && joins(before, l[i-1].Kind, text) {
				s += someGap(random)
			}
			l[i].At = len(s)
			s += text
			before = text
		}
		checkAll(t, s, l, 0, api.OK)
		checkAll(t, s+someGap(random), l, 0, api.OK)
		checkAll(t, s+"%(a) <41> >>/b", l, 0, api.OK)
		checkAll(t, s+" %", l, 0, api.OK)
	}
}
